import PyProof.Rows.All
import Wide.All
import OpenK.AllK
import Wide.FinOn
import Lean
import PyProof.EqAt
import PyProof.EqKinds
import PyProof.TupleCall
import PyProof.NeKinds
import PyProof.WalksEnum
import PyProof.EnumMake
import PyProof.CompFree
import PyProof.DictWalks
import PyProof.Rows.SumAny
import PyProof.ZipIter
import PyProof.Rows.ZipGen
import PyProof.Rows.TupAdd
import PyProof.Conv_int_bool
import PyProof.ExcClass3
import PyProof.StationsW
import PyProof.PassesOwn
import PyProof.RulesAs
import PyProof.NsDelKeeps
import PyProof.Rows.Own
import PyProof.ExcBaseAll.ValueError
import PyProof.ExcArgsOwn
import PyProof.Rows.FStr
import PyProof.ConsumeWalk
import PyProof.StrCalls
import KE.KDictSum
import KE.KRevIter
import PyProof.ListRange
import PyProof.ReprHeadsTuple
import PyProof.ReprLen
import PyProof.StrCalls2
import PyProof.StrWalks
import PyProof.SliceStr2
import PyProof.MeetsStr
import PyProof.Rows.StrNews2
import PyProof.Conv_int
import PyProof.StrLawsTight
import PyProof.StrLawsJoin
import PyProof.Rows.ReprOcc
import PySem.Challenge.RW_cutway_k17_written_and_read
set_option Elab.async false
set_option linter.all false
set_option maxRecDepth 100000
namespace L2
open PySem PySem.Spec PyProof.Rows

noncomputable abbrev Key := Sum Int Str
noncomputable def keyIs : Key → Value → Bool
  | .inl k, v => Value.isInt k v
  | .inr x, v => Value.isStrOf x v
noncomputable def keyH (w : World) : Key → Int
  | .inl k => hashInt k
  | .inr x => hashStr w x
theorem keyIs_shape : ∀ {k : Key} {v : Value}, keyIs k v = true → (∃ i t, k = Sum.inl i ∧ v = Value.int i t) ∨ (∃ x t, k = Sum.inr x ∧ v = Value.str x t)
  | .inl i, v, h => by
    obtain ⟨t, e⟩ := Value.isInt_shape (k := i) (v := v) h
    exact .inl ⟨i, t, rfl, e⟩
  | .inr x, v, h => by
    obtain ⟨t, e⟩ := Value.isStrOf_shape (x := x) (v := v) h
    exact .inr ⟨x, t, rfl, e⟩
theorem keyIs_int (i : Int) (t : Tok) : keyIs (.inl i) (.int i t) = true := by simp [keyIs, Value.isInt]
theorem keyIs_str (x : Str) (t : Tok) : keyIs (.inr x) (.str x t) = true := by simp [keyIs, Value.isStrOf]
theorem key_ll (a b : Int) : decide ((Sum.inl a : Key) = Sum.inl b) = (a == b) := by
  by_cases e : a = b
  · subst e; simp
  · have h : ¬ (Sum.inl a : Key) = Sum.inl b := fun q => e (Sum.inl.inj q)
    rw [decide_eq_false h]
    exact (beq_eq_false_iff_ne.mpr e).symm
theorem key_rr (a b : Str) : decide ((Sum.inr a : Key) = Sum.inr b) = decide (a = b) := by
  by_cases e : a = b
  · subst e; simp
  · have h : ¬ (Sum.inr a : Key) = Sum.inr b := fun q => e (Sum.inr.inj q)
    rw [decide_eq_false h, decide_eq_false e]
theorem key_lr (a : Int) (b : Str) : decide ((Sum.inl a : Key) = Sum.inr b) = false := decide_eq_false (fun q => nomatch q)
theorem key_rl (a : Str) (b : Int) : decide ((Sum.inr a : Key) = Sum.inl b) = false := decide_eq_false (fun q => nomatch q)

noncomputable def mixKind (prog : Program) (w : World) : PySem.KeyKind prog w Key where
  is := keyIs
  hash := keyH w
  inj := fun v a b ha hb => by
    rcases keyIs_shape ha with ⟨i, t, rfl, rfl⟩ | ⟨x, t, rfl, rfl⟩
    · rcases keyIs_shape hb with ⟨j, u, rfl, e⟩ | ⟨y, u, rfl, e⟩
      · injection e with e1 _; rw [e1]
      · exact nomatch e
    · rcases keyIs_shape hb with ⟨j, u, rfl, e⟩ | ⟨y, u, rfl, e⟩
      · exact nomatch e
      · injection e with e1 _; rw [e1]
  byValue := fun k v h => by
    rcases keyIs_shape h with ⟨i, t, rfl, rfl⟩ | ⟨x, t, rfl, rfl⟩ <;> rfl
  pyHash := fun hv h => by
    rcases keyIs_shape hv with ⟨i, t, rfl, rfl⟩ | ⟨x, t, rfl, rfl⟩
    · exact wpAny_pyHash_int h
    · exact wpAny_pyHash_str h
  eqBool := fun hu hv h => by
    rcases keyIs_shape hu with ⟨i, t, rfl, rfl⟩ | ⟨x, t, rfl, rfl⟩
    · rcases keyIs_shape hv with ⟨j, u, rfl, rfl⟩ | ⟨y, u, rfl, rfl⟩
      · rw [key_ll] at h; exact wpAny_eqBool_int h
      · rw [key_lr] at h; exact SeqAt.EqAt.int_str i t y u _ _ _ _ h
    · rcases keyIs_shape hv with ⟨j, u, rfl, rfl⟩ | ⟨y, u, rfl, rfl⟩
      · rw [key_rl] at h; exact SeqAt.EqAt.str_int x t j u _ _ _ _ h
      · rw [key_rr] at h; exact wpAny_eqBool_str h
  «strs» := fun k x t v h => by
    rcases keyIs_shape h with ⟨i, u, rfl, e⟩ | ⟨y, u, rfl, e⟩
    · exact nomatch e
    · injection e with e1 _
      subst e1
      cases v <;> rfl

theorem mixKind_int (prog : Program) (w : World) (i : Int) (t : Tok) : (mixKind prog w).is (.inl i) (.int i t) = true := keyIs_int i t
theorem mixKind_str (prog : Program) (w : World) (x : Str) (t : Tok) : (mixKind prog w).is (.inr x) (.str x t) = true := keyIs_str x t
end L2

namespace L2
open PySem PySem.Spec PyProof.Rows

inductive V where
  | non | bl (b : Bool) | int (i : Int) | str (x : Str) | byt (b : Array UInt8) | flt (b : UInt64) | ref (a : Addr) | ty (n : String)
  deriving DecidableEq

noncomputable def RelV : V → Value → Prop
  | .non, u => u = Value.none
  | .bl b, u => u = Value.bool b
  | .int i, u => ∃ t, u = Value.int i t
  | .str x, u => ∃ t, u = Value.str x t
  | .byt b, u => ∃ t, u = Value.bytes b t
  | .flt b, u => ∃ t, u = Value.float b t
  | .ref a, u => u = Value.ref a
  | .ty n, u => u = Value.type n

noncomputable abbrev Vals : List V → List Value → Prop := Paired RelV
theorem Vals.length {xs : List V} {us : List Value} (r : Vals xs us) : xs.length = us.length := Paired.length r
theorem Vals.get : ∀ {xs : List V} {us : List Value} {i : Nat} {x : V}, Vals xs us → xs[i]? = some x → ∃ u, us[i]? = some u ∧ RelV x u
  | _, _, _, _, .nil, e => by simp at e
  | _, _, 0, _, .cons r _, e => by simp at e; subst e; exact ⟨_, rfl, r⟩
  | _, _, i + 1, x, .cons _ t, e => by
    obtain ⟨u, h1, h2⟩ := Vals.get (i := i) (x := x) t (by simpa using e)
    exact ⟨u, by simpa using h1, h2⟩
theorem Vals.set {x : V} {u : Value} (r : RelV x u) : ∀ {xs : List V} {us : List Value} (i : Nat), Vals xs us → Vals (xs.set i x) (us.set i u)
  | _, _, _, .nil => .nil
  | _, _, 0, .cons _ t => .cons r t
  | _, _, i + 1, .cons q t => .cons q (Vals.set r i t)
theorem Vals.append {xs ys : List V} {us ws : List Value} (h : Vals xs us) (s : Vals ys ws) : Vals (xs ++ ys) (us ++ ws) := by
  induction h with
  | nil => exact s
  | cons r t ih => exact .cons r ih

noncomputable def RelO : Option V → Option Value → Prop
  | some v, some u => RelV v u
  | none, none => True
  | _, _ => False
noncomputable def KV {κ : Type} : List (κ × V) → List (κ × Value) → Prop := Paired fun (p : κ × V) (q : κ × Value) => p.1 = q.1 ∧ RelV p.2 q.2

noncomputable def kV : Key → V
  | .inl i => .int i
  | .inr x => .str x

inductive HO where
    | lst (xs : List V)
    | tup (xs : List V)
    | dK (kvs : List (Key × V)) | dT (kvs : List (List Key × V))
    | set (S : Int → Bool) (n : Nat)
    | ins (C dx : Addr) (fs : List (Str × V))
    | own (x : Addr)
    | xd (fs : List (Str × V))
    | met (f x : Addr)
    | rng (lo hi : Int)
    | frz (o : Obj) (u : HO)
    | tbl (ps : Array Value)
    | ext (φ : Heap → Prop)

noncomputable abbrev Hp := Addr → Option HO
noncomputable def upd (H : Hp) (a : Addr) (o : HO) : Hp := fun b => if b = a then some o else H b
theorem upd_same {H : Hp} {a : Addr} {o : HO} : upd H a o a = some o := by unfold upd; rw [if_pos rfl]
theorem upd_ne {H : Hp} {a b : Addr} {o : HO} (h : b ≠ a) : upd H a o b = H b := by unfold upd; rw [if_neg h]
theorem ne_of {H : Hp} {a b : Addr} {o u : HO} (h : H a = some o) (h' : H b = some u) (d : o ≠ u) : a ≠ b := by
  intro e; subst e; rw [h] at h'; exact d (Option.some.inj h')
theorem ne_of_none {H : Hp} {a b : Addr} {o : HO} (h : H a = some o) (h' : H b = none) : a ≠ b := by
  intro e; subst e; rw [h] at h'; cases h'

section
variable (P : Program) (w : World)
noncomputable def ObjOk (H : Hp) (h : Heap) (a : Addr) : HO → Prop
  | .lst xs => xs.length ≤ sizeLine ∧ ∃ (its : List Value) (n : Nat), Vals xs its ∧ h.get? a = some { cls := .type "list", data := .seq its.toArray n }
  | .tup xs => xs.length ≤ sizeLine ∧ ∃ its : List Value, Vals xs its ∧ IsTup h a its.toArray
  | .dK kvs => kvs.length ≤ sizeLine ∧ (a == sysModules) = false ∧ ∃ vs, KV kvs vs ∧ h.DictOf (mixKind P w) a vs
  | .dT kvs => kvs.length ≤ sizeLine ∧ (a == sysModules) = false ∧ ∃ xs : List (List Key × Addr × Value),
      Paired (fun (p : List Key × V) (q : List Key × Addr × Value) => p.1 = q.1 ∧ H q.2.1 = some (.tup (p.1.map kV)) ∧ RelV p.2 q.2.2) kvs xs ∧
      ∃ o es ep, h.get? a = some o ∧ o.ExactDict ∧ o.data = .dict es ep ∧ es.toList = xs.map (entryOfKey (tupleKind (mixKind P w))) ∧ (xs.map (·.1)).Nodup
  | .set S n => h.SetOf (intKind P w) a S n
  | .ins C dx fs => H dx = some (.own a) ∧ fs.length ≤ 1000 ∧ dx ≠ a ∧ h.get? a = some (PySem.W.instObj C dx) ∧
      ∃ mA, h.Ns1 dx mA ∧ (∀ f, RelO (fs.lookup f) (mA f)) ∧ PySem.Within mA (fs.map (·.1))
  | .own _ => ∃ o, h.get? a = some o
  | .xd fs => ∃ mA, h.Ns1 a mA ∧ ∀ f, RelO (fs.lookup f) (mA f)
  | .rng lo hi => ∃ t u v, h.get? a = some { cls := .type "range", data := .fields #[.int lo t, .int hi u, .int 1 v] }
  | .frz o u => h.get? a = some o ∧ ObjOk H h a u
  | .tbl ps => h.get? a = some { cls := .none, data := .fields ps }
  | .met f x => h.get? a = some (PySem.W.methodObj (.ref f) (.ref x))
  | .ext φ => φ h ∧ (∃ o, h.get? a = some o) ∧ ∀ h1 h2 : Heap, φ h1 → (∀ o, h1.get? a = some o → h2.get? a = some o) → φ h2
noncomputable def HOk (H : Hp) (h : Heap) : Prop := ∀ a o, H a = some o → ObjOk P w H h a o
end

section
variable {P : Program} {w : World} {H H' : Hp} {h h' : Heap} {a : Addr} {o : HO}
theorem ObjOk.lt (x : ObjOk P w H h a o) : a < h.objs.size := by
  cases o with
  | lst xs => obtain ⟨_, _, _, _, e⟩ := x; exact Heap.lt_size e
  | tup xs => obtain ⟨_, _, _, p⟩ := x; exact p.lt
  | dK kvs => obtain ⟨_, _, _, _, o, _, _, e, _⟩ := x; exact Heap.lt_size e
  | dT kvs => obtain ⟨_, _, _, _, o, _, _, e, _⟩ := x; exact Heap.lt_size e
  | set S n => obtain ⟨o, _, _, _, e, _⟩ := x; exact Heap.lt_size e
  | ins C dx fs => obtain ⟨_, _, _, e, _⟩ := x; exact Heap.lt_size e
  | own y => obtain ⟨_, e⟩ := x; exact Heap.lt_size e
  | xd fs => obtain ⟨_, ⟨_, _, _, e, _⟩, _⟩ := x; exact Heap.lt_size e
  | rng lo hi => obtain ⟨_, _, _, e⟩ := x; exact Heap.lt_size e
  | frz ob u => obtain ⟨e, _⟩ := x; exact Heap.lt_size e
  | tbl ps => exact Heap.lt_size (show h.get? a = some _ from x)
  | met f y => exact Heap.lt_size (show h.get? a = some _ from x)
  | ext φ => obtain ⟨_, ⟨_, e⟩, _⟩ := x; exact Heap.lt_size e
theorem Paired.mapP {α β : Type} {F G : α → β → Prop} {l₁ : List α} {l₂ : List β} (h : Paired F l₁ l₂) (f : ∀ a b, F a b → G a b) : Paired G l₁ l₂ := by
  induction h with
  | nil => exact .nil
  | cons r t ih => exact .cons (f _ _ r) ih
theorem ObjOk.stay (x : ObjOk P w H h a o) (k : ∀ b u, (b = a ∨ H b = some (.own a)) → h.get? b = some u → h'.get? b = some u)
    (ho : ∀ b, H b = some (.own a) → H' b = some (.own a)) (ht : ∀ b xs, H b = some (.tup xs) → H' b = some (.tup xs)) : ObjOk P w H' h' a o := by
  induction o with
  | lst xs => obtain ⟨z, its, n, r, e⟩ := x; exact ⟨z, its, n, r, k _ _ (.inl rfl) e⟩
  | tup xs => obtain ⟨z, its, r, ob, e, c⟩ := x; exact ⟨z, its, r, ob, k _ _ (.inl rfl) e, c⟩
  | dK kvs => obtain ⟨z, y, vs, r, ob, es, ep, e, c⟩ := x; exact ⟨z, y, vs, r, ob, es, ep, k _ _ (.inl rfl) e, c⟩
  | dT kvs =>
    obtain ⟨z, y, xs, r, ob, es, ep, e, c⟩ := x
    exact ⟨z, y, xs, Paired.mapP r fun p q z => ⟨z.1, ht _ _ z.2.1, z.2.2⟩, ob, es, ep, k _ _ (.inl rfl) e, c⟩
  | set S n => obtain ⟨ob, es, ep, t, e, c⟩ := x; exact ⟨ob, es, ep, t, k _ _ (.inl rfl) e, c⟩
  | ins C dx fs =>
    obtain ⟨d, z, ne, e, mA, ⟨od, es, ep, e2, c⟩, r⟩ := x
    exact ⟨ho _ d, z, ne, k _ _ (.inl rfl) e, mA, ⟨od, es, ep, k _ _ (.inr d) e2, c⟩, r⟩
  | own y => obtain ⟨ob, e⟩ := x; exact ⟨ob, k _ _ (.inl rfl) e⟩
  | xd fs => obtain ⟨mA, ⟨od, es, ep, e, c⟩, r⟩ := x; exact ⟨mA, ⟨od, es, ep, k _ _ (.inl rfl) e, c⟩, r⟩
  | rng lo hi => obtain ⟨t, u, v, e⟩ := x; exact ⟨t, u, v, k _ _ (.inl rfl) e⟩
  | frz ob u ih => obtain ⟨e, q⟩ := x; exact ⟨k _ _ (.inl rfl) e, ih q⟩
  | tbl ps =>
    have e : h.get? a = some { cls := .none, data := .fields ps } := x
    show h'.get? a = some { cls := .none, data := .fields ps }
    exact k a _ (.inl rfl) e
  | met f y =>
    have e : h.get? a = some (PySem.W.methodObj (.ref f) (.ref y)) := x
    show h'.get? a = some (PySem.W.methodObj (.ref f) (.ref y))
    exact k a _ (.inl rfl) e
  | ext φ => obtain ⟨p, ⟨o, e⟩, st⟩ := x; exact ⟨st _ _ p fun o q => k _ _ (.inl rfl) q, ⟨o, k _ _ (.inl rfl) e⟩, st⟩
theorem HOk.lt (x : HOk P w H h) (e : H a = some o) : a < h.objs.size := (x a o e).lt
theorem HOk.fresh (x : HOk P w H h) (e : h.objs.size ≤ a) : H a = none := by
  cases q : H a with
  | none => rfl
  | some u => exact absurd (Nat.lt_of_lt_of_le (x.lt q) e) (Nat.lt_irrefl _)
theorem HOk.kept (x : HOk P w H h) (k : ∀ b u, h.get? b = some u → h'.get? b = some u) : HOk P w H h' := fun a o e =>
  (x a o e).stay (fun b u _ q => k b u q) (fun _ q => q) fun _ _ q => q
theorem HOk.laid (x : HOk P w H h) (k : ∀ b u, h.get? b = some u → h'.get? b = some u) (hp : h.objs.size ≤ a) (new : ObjOk P w (upd H a o) h' a o) : HOk P w (upd H a o) h' := fun b u e => by
  have hn := x.fresh hp
  by_cases hb : b = a
  · subst hb; rw [upd_same] at e; cases e; exact new
  · rw [upd_ne hb] at e
    exact (x b u e).stay (fun c v _ q => k c v q) (fun c q => by rw [upd_ne (ne_of_none q hn)]; exact q) fun c xs q => by rw [upd_ne (ne_of_none q hn)]; exact q
end

noncomputable def Rd (H : Hp) (a : Addr) (u : HO) : Prop := H a = some u ∨ ∃ o, H a = some (.frz o u)
theorem Rd.ok {P : Program} {w : World} {H : Hp} {h : Heap} {a : Addr} {u : HO} (r : Rd H a u) (x : HOk P w H h) : ObjOk P w H h a u := by
  rcases r with r | ⟨o, r⟩
  · exact x a u r
  · obtain ⟨_, q⟩ := x a _ r
    exact q
noncomputable def Mut : Option HO → Prop
  | some (.lst _) => True
  | some (.dK _) => True
  | some (.dT _) => True
  | some (.set _ _) => True
  | some (.ins _ _ _) => True
  | some (.ext _) => True
  | _ => False
section
variable {P : Program} {w : World} {H : Hp} {h h' : Heap} {x e : Addr} {o' : HO}
theorem HOk.write (ok : HOk P w H h) (mu : Mut (H x)) (he : e = x ∨ H e = some (.own x)) (k : ∀ b u, b ≠ e → h.get? b = some u → h'.get? b = some u) (heo : ∃ u, h'.get? e = some u)
    (new : ObjOk P w (upd H x o') h' x o') : HOk P w (upd H x o') h' := fun b u q => by
  have nown : ∀ c y, H c = some (.own y) → c ≠ x := fun c y r z => by subst z; rw [r] at mu; exact mu
  have ntup : ∀ c xs, H c = some (.tup xs) → c ≠ x := fun c xs r z => by subst z; rw [r] at mu; exact mu
  by_cases hb : b = x
  · subst hb; rw [upd_same] at q; cases q; exact new
  · rw [upd_ne hb] at q
    by_cases hbe : b = e
    · have q' : H b = some (.own x) := by
        rcases he with z | z
        · exact absurd (hbe.trans z) hb
        · rw [hbe]; exact z
      rw [q] at q'; cases q'
      obtain ⟨v, hv⟩ := heo
      exact ⟨v, by rw [hbe]; exact hv⟩
    · refine (ok b u q).stay (fun c v hc r => k c v ?_ r) (fun c r => by rw [upd_ne (nown c b r)]; exact r) fun c xs r => by rw [upd_ne (ntup c xs r)]; exact r
      rcases hc with rfl | hc
      · exact hbe
      · rintro rfl
        rcases he with z | z
        · exact nown c b hc z
        · rw [hc] at z; cases z; exact hb rfl
end

structure Un (fs ex : List Addr) (H H' : Hp) (h h' : Heap) : Prop where
  keep : ∀ b o, h.get? b = some o → H b = none → b ∉ fs → b ∉ ex → h'.get? b = some o
  slot : ∀ b o, h.get? b = some o → H b = none → b ∈ fs → b ∉ ex → ∃ sl, h'.get? b = some { o with slots := sl }
  free : ∀ b o, h.get? b = some o → H b = none → b ∉ ex → H' b = none
  there : ∀ b o, h.get? b = some o → b ∉ ex → ∃ o', h'.get? b = some o'
  tups : ∀ b xs, H b = some (.tup xs) → H' b = some (.tup xs)
  frzs : ∀ b o u, H b = some (.frz o u) → H' b = some (.frz o u)
  tbls : ∀ b ps, H b = some (.tbl ps) → ∃ more, H' b = some (.tbl (ps ++ more))
section
variable {fs fs' ex ex' : List Addr} {H H1 H2 : Hp} {h h1 h2 h' : Heap} {a x e : Addr} {o : HO}
theorem Un.any (u : Un fs ex H H1 h h1) {b : Addr} {ob : Obj} (q : h.get? b = some ob) (n : H b = none) (hx : b ∉ ex) : ∃ sl, h1.get? b = some { ob with slots := sl } := by
  by_cases hb : b ∈ fs
  · exact u.slot b ob q n hb hx
  · exact ⟨ob.slots, u.keep b ob q n hb hx⟩
theorem Un.kept (k : ∀ b u, h.get? b = some u → h'.get? b = some u) : Un fs ex H H h h' :=
  ⟨fun b ob q _ _ _ => k b ob q, fun b ob q _ _ _ => ⟨ob.slots, k b ob q⟩, fun _ _ _ n _ => n, fun b ob q _ => ⟨ob, k b ob q⟩, fun _ _ q => q, fun _ _ _ q => q, fun _ ps q => ⟨#[], by rw [q]; simp⟩⟩
theorem Un.refl : Un fs ex H H h h := Un.kept fun _ _ q => q
theorem Un.laid (k : ∀ b u, h.get? b = some u → h'.get? b = some u) (hp : h.objs.size ≤ a) (hn : H a = none) : Un fs ex H (upd H a o) h h' where
  keep := fun b u q _ _ _ => k b u q
  slot := fun b u q _ _ _ => ⟨u.slots, k b u q⟩
  free := fun b u q n _ => by rw [upd_ne (Nat.ne_of_lt (Nat.lt_of_lt_of_le (Heap.lt_size q) hp))]; exact n
  there := fun b u q _ => ⟨u, k b u q⟩
  tups := fun b xs q => by rw [upd_ne (ne_of_none q hn)]; exact q
  frzs := fun b u xs q => by rw [upd_ne (ne_of_none q hn)]; exact q
  tbls := fun b ps q => ⟨#[], by rw [upd_ne (ne_of_none q hn), q]; simp⟩
theorem Un.write (mu : Mut (H x)) (he : e = x ∨ H e = some (.own x)) (k : ∀ b u, b ≠ e → h.get? b = some u → h'.get? b = some u) (heo : ∃ u, h'.get? e = some u) : Un fs ex H (upd H x o) h h' := by
  have hx : ∀ b, H b = none → b ≠ x := fun b n z => by subst z; rw [n] at mu; exact mu
  have hb : ∀ b, H b = none → b ≠ e := fun b n z => by
    subst z
    rcases he with r | r
    · exact hx b n r
    · rw [n] at r; cases r
  have hm : ∀ b u, H b = some u → ¬ Mut (some u) → b ≠ x := fun b u q nm z => by subst z; rw [q] at mu; exact nm mu
  refine ⟨fun b u q n _ _ => k b u (hb b n) q, fun b u q n _ _ => ⟨u.slots, k b u (hb b n) q⟩, fun b u q n _ => by rw [upd_ne (hx b n)]; exact n, fun b u q _ => ?_,
    fun b xs q => by rw [upd_ne (hm b _ q fun z => z)]; exact q, fun b u xs q => by rw [upd_ne (hm b _ q fun z => z)]; exact q, fun b ps q => ⟨#[], by rw [upd_ne (hm b _ q fun z => z), q]; simp⟩⟩
  by_cases hbe : b = e
  · subst hbe; exact heo
  · exact ⟨u, k b u hbe q⟩
end

noncomputable def trk (h : Heap) (H : Hp) : List Addr := (List.range h.objs.size).filter fun a => (H a).isSome
noncomputable def hidT (h : Heap) (H : Hp) : Heap := PySem.W.hideAll h (trk h H)
theorem hidT_size (h : Heap) (H : Hp) : (hidT h H).objs.size = h.objs.size := PySem.W.hideAll_size _ _
theorem hidT_get {h : Heap} {H : Hp} {b : Addr} {o : Obj} (e : h.get? b = some o) (n : H b = none) : (hidT h H).get? b = some o :=
  PySem.W.hideAll_get _ e fun hm => by
    have q : (H b).isSome = true := (List.mem_filter.mp hm).2
    rw [n] at q; simp at q
theorem of_hidT {h : Heap} {H : Hp} {b : Addr} {o : Obj} (e : (hidT h H).get? b = some o) : h.get? b = some o ∧ H b = none := by
  have e' : h.get? b = some o := PySem.W.of_hideAll (trk h H) e
  refine ⟨e', ?_⟩
  cases q : H b with
  | none => rfl
  | some x =>
    have hm : b ∈ trk h H := List.mem_filter.mpr ⟨List.mem_range.mpr (Heap.lt_size e'), by simp [q]⟩
    have z : (hidT h H).get? b = none := PySem.W.hideAll_none (trk h H) hm
    rw [z] at e; cases e

end L2

namespace L2
open PySem PySem.Spec PyProof.Rows

structure Mod (K : PySem.W.Frag) (mg : Str → Option Value) (base : Heap) : Prop where
  kin : K.In base
  glob : base.Ns mainGlobals mg
  blt : ∃ mb, base.Ns builtinsNs mb ∧ ∀ x : Str, x ≠ "__name__" → mb x = bootBuiltins x
  nolimit : base.NoLimit

structure Cx where
  prog : Program
  w : World
  K : PySem.W.Frag
  mg : Str → Option Value
  base : Heap
  A : Around
  N : List Str
  s₀ : Shared
  H₀ : Hp
  env : Env
  outer : List Env
  stack : List Env
  ex : List Addr
  fn : Str → Bool
  calm : Bool
  pn : List (Addr × Obj)
  xe : Value → Shared → Prop
noncomputable def frs (l : List Env) : List Addr := l.filterMap (·.frame)
noncomputable abbrev Cx.fs (X : Cx) : List Addr := frs X.outer

noncomputable def Vis (sc : Scope) (x : Str) : Prop := sc.names.lookup x = some .local ∨ sc.names.lookup x = some .cell ∨ sc.names.lookup x = some .free
noncomputable def Loc (sc : Scope) (x : Str) : Prop := sc.names.lookup x = some .local ∨ sc.names.lookup x = some .cell
noncomputable def Look (env : Env) (h : Heap) (m : Str → Option Value) (x : Str) (u : Value) : Prop :=
  (env.kindOf x = some .local ∧ m x = some u) ∨ ((env.kindOf x = some .cell ∨ env.kindOf x = some .free) ∧ ∃ c, env.cells.lookup x = some c ∧ h.IsCell c (some u))

structure Cx.Ok (X : Cx) : Prop where
  mod : Mod X.K X.mg X.base
  kind : X.env.scope.kind = .function
  glob : X.env.globals = mainGlobals
  blt : X.env.builtins = builtinsNs
  above : X.s₀.heap.objs.size ≤ X.env.locals
  inj : ∀ x y c, X.env.cells.lookup x = some c → X.env.cells.lookup y = some c → x = y
  has : ∀ x, (X.env.kindOf x = some .cell ∨ X.env.kindOf x = some .free) → ∃ c, X.env.cells.lookup x = some c
  cab : ∀ x c, X.fn x = true → X.env.cells.lookup x = some c → X.s₀.heap.objs.size ≤ c
  hd : X.calm = true → X.A.handled = none
  frames : X.A.frames = some X.stack
  stk : X.stack = X.outer ∨ (X.stack = X.env :: X.outer ∧ X.env.frame = some X.env.locals)
  exf : ∀ b ∈ X.ex, b ≠ X.env.locals ∧ ∀ x c, X.env.cells.lookup x = some c → c ≠ b
  bs : ∀ b o, X.base.get? b = some o → X.s₀.heap.get? b = some o ∧ X.H₀ b = none
  bsz : X.base.objs.size ≤ X.s₀.heap.objs.size
  noex : ∀ b o, X.base.get? b = some o → b ∉ X.ex
  exfs : ∀ b ∈ X.ex, b ∉ X.fs
  funs : X.s₀.heap.FunFrames X.base X.outer
  frf : ∀ b ∈ X.fs, X.H₀ b = none

structure Inv (X : Cx) (pins : List (Addr × Obj)) (σ : List (Option V)) (H : Hp) (s : Shared) : Prop where
  ok : X.Ok
  os : s.os = X.s₀.os
  bare : AllBare s.gens
  base : Un X.fs X.ex X.H₀ H X.s₀.heap s.heap
  loc : ∃ m, s.heap.Ns X.env.locals m ∧ ∀ (i : Nat) (x : Str) (v : V), X.N[i]? = some x → σ[i]? = some (some v) → Vis X.env.scope x → ∃ u, RelV v u ∧ Look X.env s.heap m x u
  cell : ∀ x c, X.env.cells.lookup x = some c → ∃ v, s.heap.IsCell c v
  free : H X.env.locals = none
  freeC : ∀ x c, X.env.cells.lookup x = some c → H c = none
  pin : ∀ p ∈ X.pn ++ pins, s.heap.get? p.1 = some p.2 ∧ H p.1 = none ∧ p.1 ≠ X.env.locals ∧ p.1 ∉ X.fs ∧ ∀ v, p.2.data ≠ .cell v
  hok : HOk X.prog X.w H s.heap
  len : σ.length = X.N.length

section
variable {X : Cx} {pins : List (Addr × Obj)} {σ : List (Option V)} {H H' : Hp} {s : Shared} {h' : Heap}

theorem Cx.Ok.nofr (ok : X.Ok) {b : Addr} {o : Obj} (e : X.base.get? b = some o) : b ∉ X.fs := fun hb => by
  have := (ok.funs.mem hb).1
  rw [e] at this; cases this
theorem Inv.bs (I : Inv X pins σ H s) : ∀ b o, X.base.get? b = some o → s.heap.get? b = some o ∧ H b = none := fun b o e =>
  ⟨I.base.keep b o (I.ok.bs b o e).1 (I.ok.bs b o e).2 (I.ok.nofr e) (I.ok.noex b o e), I.base.free b o (I.ok.bs b o e).1 (I.ok.bs b o e).2 (I.ok.noex b o e)⟩
theorem Inv.bk (I : Inv X pins σ H s) : ∀ b o, X.base.get? b = some o → s.heap.get? b = some o := fun b o e => (I.bs b o e).1
theorem Inv.mod (I : Inv X pins σ H s) : Mod X.K X.mg X.base := I.ok.mod
theorem Inv.kIn (I : Inv X pins σ H s) : X.K.In s.heap := I.ok.mod.kin.keeps I.bk
theorem Inv.lt (I : Inv X pins σ H s) : X.env.locals < s.heap.objs.size := let ⟨_, hn, _⟩ := I.loc; hn.lt
theorem Inv.sz (I : Inv X pins σ H s) : X.s₀.heap.objs.size ≤ s.heap.objs.size := Nat.le_trans I.ok.above (Nat.le_of_lt I.lt)
theorem Inv.nofs (I : Inv X pins σ H s) {a : Addr} (h : s.heap.objs.size ≤ a) : a ∉ X.fs := fun hb => by
  obtain ⟨_, o, ho, _⟩ := I.ok.funs.mem hb
  exact absurd (Nat.lt_of_lt_of_le (Heap.lt_size ho) (Nat.le_trans I.sz h)) (Nat.lt_irrefl _)
theorem Inv.cne (I : Inv X pins σ H s) : ∀ x c, X.env.cells.lookup x = some c → c ≠ X.env.locals := fun x c e z => by
  obtain ⟨v, o, ho, hd⟩ := I.cell x c e
  obtain ⟨m, ⟨o', es, ep, ho', hd', _⟩, _⟩ := I.loc
  rw [z, ho'] at ho; cases ho; rw [hd'] at hd; cases hd
theorem Inv.funs (I : Inv X pins σ H s) : s.heap.FunFrames X.base X.outer := by
  have all : ∀ (l : List Env), (∀ b ∈ frs l, b ∈ X.fs) → X.s₀.heap.FunFrames X.base l → s.heap.FunFrames X.base l := by
    intro l
    induction l with
    | nil => intro _ _; trivial
    | cons env r ih =>
      intro hs hl
      obtain ⟨hk, ⟨L, o, hf, hn, ho, hd⟩, hr⟩ := hl
      have hL : L ∈ X.fs := hs L (by unfold frs; rw [List.filterMap_cons, hf]; exact List.mem_cons_self)
      obtain ⟨sl, e⟩ := I.base.slot L o ho (I.ok.frf L hL) hL fun z => I.ok.exfs L z hL
      exact ⟨hk, ⟨L, _, hf, hn, e, hd⟩, ih (fun b hb => hs b (by unfold frs; rw [List.filterMap_cons, hf]; exact List.mem_cons_of_mem _ hb)) hr⟩
  exact all X.outer (fun _ hb => hb) I.ok.funs

theorem Inv.stack (I : Inv X pins σ H s) : s.heap.FunFrames X.base X.stack := by
  rcases I.ok.stk with e | ⟨e, hf⟩
  · rw [e]; exact I.funs
  · rw [e]
    obtain ⟨m, hn, _⟩ := I.loc
    refine .cons (by rw [I.ok.kind]; decide) hf hn ?_ I.funs
    exact Heap.get?_none_of_le (Nat.le_trans I.ok.bsz I.ok.above)
theorem Inv.stkSub (I : Inv X pins σ H s) : ∀ b ∈ frs X.stack, b ∈ X.env.locals :: X.fs := fun b hb => by
  rcases I.ok.stk with e | ⟨e, hf⟩
  · rw [e] at hb; exact List.mem_cons_of_mem _ hb
  · rw [e] at hb
    unfold frs at hb
    rw [List.filterMap_cons, hf] at hb
    exact hb
theorem Inv.stkFree (I : Inv X pins σ H s) : ∀ b ∈ frs X.stack, H b = none := fun b hb => by
  rcases List.mem_cons.mp (I.stkSub b hb) with e | hb
  · rw [e]; exact I.free
  · obtain ⟨_, o, ho, _⟩ := I.ok.funs.mem hb
    exact I.base.free b o ho (I.ok.frf b hb) fun z => I.ok.exfs b z hb

theorem Inv.step {g' : Array GenState} {t' : Nat} {d' : Drawn} {ch : List Addr} (I : Inv X pins σ H s)
    (hch : ∀ b ∈ ch, (b ∈ X.ex ∨ X.s₀.heap.objs.size ≤ b) ∧ b ≠ X.env.locals ∧ (∀ x c, X.env.cells.lookup x = some c → c ≠ b) ∧ ∀ p ∈ X.pn ++ pins, p.1 ≠ b)
    (keep : ∀ b o, b ≠ X.env.locals → b ∉ X.fs → b ∉ ch → s.heap.get? b = some o → H b = none → h'.get? b = some o)
    (slot : ∀ b o, b ≠ X.env.locals → b ∈ X.fs → b ∉ ch → s.heap.get? b = some o → H b = none → ∃ sl, h'.get? b = some { o with slots := sl }) (free : ∀ b o, b ∉ ch → s.heap.get? b = some o → H b = none → H' b = none)
    (there : ∀ b o, b ∉ ch → s.heap.get? b = some o → ∃ o', h'.get? b = some o')
    (tups : ∀ b xs, H b = some (.tup xs) → H' b = some (.tup xs)) (frzs : ∀ b o u, H b = some (.frz o u) → H' b = some (.frz o u)) (tbls : ∀ b ps, H b = some (.tbl ps) → ∃ more, H' b = some (.tbl (ps ++ more)))
    (ns : ∀ m, s.heap.Ns X.env.locals m → h'.Ns X.env.locals m) (hok : HOk X.prog X.w H' h') (hg : AllBare g') :
    Inv X pins σ H' { s with heap := h', gens := g', drawn := d', toks := t' } := by
  have neL : ∀ b o, X.s₀.heap.get? b = some o → b ≠ X.env.locals := fun b o e => Nat.ne_of_lt (Nat.lt_of_lt_of_le (Heap.lt_size e) I.ok.above)
  have neC : ∀ b o, X.s₀.heap.get? b = some o → b ∉ X.ex → b ∉ ch := fun b o e hx hb => by
    rcases (hch b hb).1 with z | z
    · exact hx z
    · exact absurd (Nat.lt_of_lt_of_le (Heap.lt_size e) z) (Nat.lt_irrefl _)
  have cellK : ∀ x c, X.env.cells.lookup x = some c → ∀ v, s.heap.IsCell c v → h'.IsCell c v := fun x c e v ⟨o, ho, hd⟩ => by
    have nch : c ∉ ch := fun z => (hch c z).2.2.1 x c e rfl
    by_cases hc : c ∈ X.fs
    · obtain ⟨sl, q⟩ := slot c o (I.cne x c e) hc nch ho (I.freeC x c e)
      exact ⟨_, q, hd⟩
    · exact ⟨o, keep c o (I.cne x c e) hc nch ho (I.freeC x c e), hd⟩
  refine ⟨I.ok, I.os, hg, ⟨fun b o e n hb hx => ?_, fun b o e n hb hx => ?_, fun b o e n hx => ?_, fun b o e hx => ?_, fun b xs e => tups b xs (I.base.tups b xs e), fun b o xs e => frzs b o xs (I.base.frzs b o xs e), fun b ps e => ?_⟩, ?_, fun x c e => ?_, ?_, fun x c e => ?_, fun p hp => ?_, hok, I.len⟩
  · exact keep b o (neL b o e) hb (neC b o e hx) (I.base.keep b o e n hb hx) (I.base.free b o e n hx)
  · obtain ⟨sl, e1⟩ := I.base.slot b o e n hb hx
    obtain ⟨sl', e2⟩ := slot b _ (neL b o e) hb (neC b o e hx) e1 (I.base.free b o e n hx)
    exact ⟨sl', e2⟩
  · obtain ⟨o', e1⟩ := I.base.there b o e hx
    exact free b o' (neC b o e hx) e1 (I.base.free b o e n hx)
  · obtain ⟨o', e1⟩ := I.base.there b o e hx
    exact there b o' (neC b o e hx) e1
  · obtain ⟨m1, e1⟩ := I.base.tbls b ps e
    obtain ⟨m2, e2⟩ := tbls b _ e1
    exact ⟨m1 ++ m2, by rw [e2, Array.append_assoc]⟩
  · obtain ⟨m, hn, hl⟩ := I.loc
    refine ⟨m, ns m hn, fun i x v e1 e2 e3 => ?_⟩
    obtain ⟨u, r, l⟩ := hl i x v e1 e2 e3
    refine ⟨u, r, ?_⟩
    rcases l with l | ⟨k, c, e, z⟩
    · exact .inl l
    · exact .inr ⟨k, c, e, cellK x c e _ z⟩
  · obtain ⟨v, z⟩ := I.cell x c e
    exact ⟨v, cellK x c e v z⟩
  · obtain ⟨m, ⟨o, _, _, ho, _⟩, _⟩ := I.loc
    exact free _ o (fun z => (hch _ z).2.1 rfl) ho I.free
  · obtain ⟨v, o, ho, hd⟩ := I.cell x c e
    exact free c o (fun z => (hch c z).2.2.1 x c e rfl) ho (I.freeC x c e)
  · obtain ⟨e, n, ne, nf, d⟩ := I.pin p hp
    have nch : p.1 ∉ ch := fun z => (hch p.1 z).2.2.2 p hp rfl
    exact ⟨keep p.1 p.2 ne nf nch e n, free p.1 p.2 nch e n, ne, nf, d⟩
theorem Inv.un {t' : Nat} (I : Inv X pins σ H s) (u : Un X.fs [] H H' s.heap h') (hok : HOk X.prog X.w H' h') : Inv X pins σ H' { s with heap := h', toks := t' } := by
  obtain ⟨m, ⟨o, es, ep, ho, r⟩, _⟩ := id I.loc
  obtain ⟨sl, hL⟩ := u.any ho I.free (by simp)
  exact I.step (g' := s.gens) (d' := s.drawn) (ch := []) (fun _ z => nomatch z) (fun b o _ hb _ e n => u.keep b o e n hb (by simp)) (fun b o _ hb _ e n => u.slot b o e n hb (by simp)) (fun b o _ e n => u.free b o e n (by simp)) (fun b o _ e => u.there b o e (by simp)) u.tups u.frzs u.tbls (fun m' hm => by
    obtain ⟨o', es', ep', ho', r'⟩ := hm
    rw [ho] at ho'; cases ho'
    exact ⟨_, es', ep', hL, r'⟩) hok I.bare
theorem Inv.call {g' : Array GenState} {t' : Nat} {d' : Drawn} {ch : List Addr} (I : Inv X pins σ H s) (u : Un (frs X.stack) ch H H' s.heap h') (hok : HOk X.prog X.w H' h') (hg : AllBare g')
    (hch : ∀ b ∈ ch, (b ∈ X.ex ∨ X.s₀.heap.objs.size ≤ b) ∧ b ≠ X.env.locals ∧ (∀ x c, X.env.cells.lookup x = some c → c ≠ b) ∧ ∀ p ∈ X.pn ++ pins, p.1 ≠ b) :
    Inv X pins σ H' { s with heap := h', gens := g', drawn := d', toks := t' } := by
  obtain ⟨m, ⟨o, es, ep, ho, r⟩, _⟩ := id I.loc
  obtain ⟨sl, hL⟩ := u.any ho I.free fun z => (hch _ z).2.1 rfl
  exact I.step (ch := ch) hch (fun b o hL hb hc e n => u.keep b o e n (fun z => (List.mem_cons.mp (I.stkSub b z)).elim hL hb) hc) (fun b o _ _ hc e n => u.any e n hc) (fun b o hc e n => u.free b o e n hc) (fun b o hc e => u.there b o e hc) u.tups u.frzs u.tbls (fun m' hm => by
    obtain ⟨o', es', ep', ho', r'⟩ := hm
    rw [ho] at ho'; cases ho'
    exact ⟨_, es', ep', hL, r'⟩) hok hg
theorem Inv.turned {t' : Nat} {it : Addr} (I : Inv X pins σ H s) (k : ∀ b o, b ≠ it → s.heap.get? b = some o → h'.get? b = some o) (hn : H it = none) (hL : it ≠ X.env.locals)
    (h1 : it ∈ X.ex ∨ X.s₀.heap.objs.size ≤ it) (h2 : ∀ x c, X.env.cells.lookup x = some c → c ≠ it) (h3 : ∀ p ∈ X.pn ++ pins, p.1 ≠ it) : Inv X pins σ H { s with heap := h', toks := t' } := by
  have nit : ∀ b u, H b = some u → b ≠ it := fun b u e z => by rw [z, hn] at e; cases e
  refine I.step (g' := s.gens) (d' := s.drawn) (ch := [it]) (fun b hb => ?_) (fun b o _ _ hc e _ => k b o (fun z => hc (by simp [z])) e) (fun b o _ _ hc e _ => ⟨o.slots, k b o (fun z => hc (by simp [z])) e⟩) (fun _ _ _ _ n => n)
    (fun b o hc e => ⟨o, k b o (fun z => hc (by simp [z])) e⟩) (fun _ _ e => e) (fun _ _ _ e => e) (fun b ps e => ⟨#[], by rw [e]; simp⟩) (fun m hm => ?_) (fun b u e => ?_) I.bare
  · have e : b = it := by simpa using hb
    subst e
    exact ⟨h1, hL, h2, h3⟩
  · obtain ⟨o, es, ep, ho, r⟩ := hm
    exact ⟨o, es, ep, k _ o (Ne.symm hL) ho, r⟩
  · refine (I.hok b u e).stay (fun c v hc q => k c v ?_ q) (fun _ q => q) fun _ _ q => q
    rcases hc with z | z
    · rw [z]; exact nit b u e
    · exact nit c _ z
theorem Inv.tok (I : Inv X pins σ H s) (t : Nat) : Inv X pins σ H { s with toks := t } := I.un (h' := s.heap) (t' := t) Un.refl I.hok
theorem Inv.kept {t' : Nat} (I : Inv X pins σ H s) (k : ∀ b u, s.heap.get? b = some u → h'.get? b = some u) : Inv X pins σ H { s with heap := h', toks := t' } := I.un (Un.kept k) (I.hok.kept k)
theorem Inv.laid {a : Addr} {o : HO} {t' : Nat} (I : Inv X pins σ H s) (k : ∀ b u, s.heap.get? b = some u → h'.get? b = some u) (hp : s.heap.objs.size ≤ a) (new : ObjOk X.prog X.w (upd H a o) h' a o) :
    Inv X pins σ (upd H a o) { s with heap := h', toks := t' } := I.un (Un.laid k hp (I.hok.fresh hp)) (I.hok.laid k hp new)
theorem Inv.write {x e : Addr} {o : HO} {t' : Nat} (I : Inv X pins σ H s) (mu : Mut (H x)) (he : e = x ∨ H e = some (.own x)) (k : ∀ b u, b ≠ e → s.heap.get? b = some u → h'.get? b = some u) (heo : ∃ u, h'.get? e = some u)
    (new : ObjOk X.prog X.w (upd H x o) h' x o) : Inv X pins σ (upd H x o) { s with heap := h', toks := t' } := I.un (Un.write mu he k heo) (I.hok.write mu he k heo new)
theorem Inv.pins_of {pins' : List (Addr × Obj)} (I : Inv X pins σ H s) (h : ∀ p ∈ pins', s.heap.get? p.1 = some p.2 ∧ H p.1 = none ∧ p.1 ≠ X.env.locals ∧ p.1 ∉ X.fs ∧ ∀ v, p.2.data ≠ .cell v) : Inv X pins' σ H s :=
  ⟨I.ok, I.os, I.bare, I.base, I.loc, I.cell, I.free, I.freeC, fun p hp => (List.mem_append.mp hp).elim (fun z => I.pin p (List.mem_append_left _ z)) (h p), I.hok, I.len⟩

theorem nodup_ix {N : List Str} (hN : N.Nodup) {i j : Nat} {x : Str} (a : N[i]? = some x) (b : N[j]? = some x) : i = j := by
  obtain ⟨h1, e1⟩ := List.getElem?_eq_some_iff.mp a
  obtain ⟨h2, e2⟩ := List.getElem?_eq_some_iff.mp b
  exact (List.getElem_inj hN).mp (e1.trans e2.symm)

theorem store_ok2 {M : Model} {A : Around} {E : Value → Shared → Prop} {i : Nat} {x : Str} {v : V} {u : Value} {Q : Unit → Shared → Prop} (I : Inv X pins σ H s) (hN : X.N.Nodup) (hi : X.N[i]? = some x) (hx : Loc X.env.scope x) (r : RelV v u)
    (h : ∀ s', Inv X pins (σ.set i (some v)) H s' → (∃ a, Heap.SameBut a s.heap s'.heap ∧ (a = X.env.locals ∨ X.env.cells.lookup x = some a)) → Q () s') (hf : X.fn x = true ∨ X.env.scope.names.lookup x = some .local := by first | exact .inl rfl | exact .inr rfl | assumption) : wpAny M A (storeName X.env x u) Q E s := by
  obtain ⟨m, hn, hl⟩ := id I.loc
  have hcls : (X.env.scope.kind == .class || (X.env.scope.kind == .module && X.env.locals != X.env.globals)) = false := by rw [I.ok.kind]; rfl
  have hiσ : i < σ.length := by rw [I.len]; exact (List.getElem?_eq_some_iff.mp hi).1
  have cne := I.cne
  have tracked : ∀ {a : Addr} {h' : Heap}, (∃ o, s.heap.get? a = some o ∧ H a = none) → Heap.SameBut a s.heap h' → HOk X.prog X.w H h' := fun {a h'} ha hs b ob e => by
    obtain ⟨_, _, hfree⟩ := ha
    refine (I.hok b ob e).stay (fun c w' hc q => (hs.2 c ?_).trans q) (fun _ q => q) fun _ _ q => q
    rintro rfl
    rcases hc with rfl | hc
    · rw [hfree] at e; cases e
    · rw [hfree] at hc; cases hc
  rcases hx with hk | hk
  · refine wpAny_storeName_local hk hn (fun h' hn' hs => ?_) hcls
    obtain ⟨oL, _, _, hoL, _⟩ := id hn
    refine h _ ⟨I.ok, I.os, I.bare, ⟨fun b o e n hb hx => ?_, fun b o e n hb hx => ?_, I.base.free, fun b o e hx => ?_, I.base.tups, I.base.frzs, I.base.tbls⟩, ⟨_, hn', fun j y v' e1 e2 e3 => ?_⟩, fun y c e => ?_, I.free, I.freeC, fun p hp => ?_, tracked ⟨oL, hoL, I.free⟩ hs, by simpa using I.len⟩ ⟨_, hs, .inl rfl⟩
    · exact (hs.2 b (Nat.ne_of_lt (Nat.lt_of_lt_of_le (Heap.lt_size e) I.ok.above))).trans (I.base.keep b o e n hb hx)
    · obtain ⟨sl, e1⟩ := I.base.slot b o e n hb hx
      exact ⟨sl, (hs.2 b (Nat.ne_of_lt (Nat.lt_of_lt_of_le (Heap.lt_size e) I.ok.above))).trans e1⟩
    · obtain ⟨o', e1⟩ := I.base.there b o e hx
      exact ⟨o', (hs.2 b (Nat.ne_of_lt (Nat.lt_of_lt_of_le (Heap.lt_size e) I.ok.above))).trans e1⟩
    · by_cases hj : j = i
      · subst hj
        rw [hi] at e1; cases e1
        rw [List.getElem?_set_self hiσ] at e2
        cases e2
        exact ⟨u, r, .inl ⟨hk, by simp⟩⟩
      · rw [List.getElem?_set_ne (Ne.symm hj)] at e2
        obtain ⟨u', r', q⟩ := hl j y v' e1 e2 e3
        refine ⟨u', r', ?_⟩
        rcases q with ⟨k, e⟩ | ⟨k, c, e, z⟩
        · refine .inl ⟨k, ?_⟩
          have : y ≠ x := fun e => hj (nodup_ix hN e1 (e ▸ hi))
          simp [this, e]
        · exact .inr ⟨k, c, e, z.sameBut hs (cne y c e)⟩
    · obtain ⟨w', z⟩ := I.cell y c e
      exact ⟨w', z.sameBut hs (cne y c e)⟩
    · obtain ⟨e, n, ne, nf, d⟩ := I.pin p hp
      exact ⟨(hs.2 p.1 ne).trans e, n, ne, nf, d⟩
  · have hfn : X.fn x = true := by
      rcases hf with z | z
      · exact z
      · rw [z] at hk; cases hk
    obtain ⟨c, hc⟩ := I.ok.has x (.inl hk)
    obtain ⟨w', z⟩ := I.cell x c hc
    refine wpAny_storeName_cell I.ok.kind hk hc z (fun h' hc' hs => ?_)
    obtain ⟨oc, hoc, hocd⟩ := id z
    refine h { s with heap := h' } ⟨I.ok, I.os, I.bare, ⟨fun b o e n hb hx => ?_, fun b o e n hb hx => ?_, I.base.free, fun b o e hx => ?_, I.base.tups, I.base.frzs, I.base.tbls⟩, ⟨m, hn.sameBut hs (Ne.symm (cne x c hc)), fun j y v' e1 e2 e3 => ?_⟩, fun y c' e => ?_, I.free, I.freeC, fun p hp => ?_, tracked ⟨oc, hoc, I.freeC x c hc⟩ hs, by simpa using I.len⟩ ⟨c, hs, .inr hc⟩
    · exact (hs.2 b (Nat.ne_of_lt (Nat.lt_of_lt_of_le (Heap.lt_size e) (I.ok.cab x c hfn hc)))).trans (I.base.keep b o e n hb hx)
    · obtain ⟨sl, e1⟩ := I.base.slot b o e n hb hx
      exact ⟨sl, (hs.2 b (Nat.ne_of_lt (Nat.lt_of_lt_of_le (Heap.lt_size e) (I.ok.cab x c hfn hc)))).trans e1⟩
    · obtain ⟨o', e1⟩ := I.base.there b o e hx
      exact ⟨o', (hs.2 b (Nat.ne_of_lt (Nat.lt_of_lt_of_le (Heap.lt_size e) (I.ok.cab x c hfn hc)))).trans e1⟩
    · by_cases hj : j = i
      · subst hj
        rw [hi] at e1; cases e1
        rw [List.getElem?_set_self hiσ] at e2
        cases e2
        exact ⟨u, r, .inr ⟨.inl hk, c, hc, hc'⟩⟩
      · rw [List.getElem?_set_ne (Ne.symm hj)] at e2
        obtain ⟨u', r', q⟩ := hl j y v' e1 e2 e3
        refine ⟨u', r', ?_⟩
        rcases q with q | ⟨k, c', e, z'⟩
        · exact .inl q
        · refine .inr ⟨k, c', e, z'.sameBut hs ?_⟩
          rintro rfl
          exact hj (nodup_ix hN e1 (I.ok.inj _ _ _ e hc ▸ hi))
    · by_cases hcc : c' = c
      · subst hcc; exact ⟨_, hc'⟩
      · obtain ⟨w2, z2⟩ := I.cell y c' e
        exact ⟨w2, z2.sameBut hs hcc⟩
    · obtain ⟨e, n, ne, nf, d⟩ := I.pin p hp
      refine ⟨(hs.2 p.1 ?_).trans e, n, ne, nf, d⟩
      intro q
      rw [q, hoc] at e
      have q' : oc = p.2 := Option.some.inj e
      exact d w' (by rw [← q']; exact hocd)
theorem store_ok {M : Model} {A : Around} {E : Value → Shared → Prop} {i : Nat} {x : Str} {v : V} {u : Value} {Q : Unit → Shared → Prop} (I : Inv X pins σ H s) (hN : X.N.Nodup) (hi : X.N[i]? = some x) (hx : Loc X.env.scope x) (r : RelV v u)
    (h : ∀ s', Inv X pins (σ.set i (some v)) H s' → Q () s') (hf : X.fn x = true ∨ X.env.scope.names.lookup x = some .local := by first | exact .inl rfl | exact .inr rfl | assumption) : wpAny M A (storeName X.env x u) Q E s :=
  store_ok2 I hN hi hx r (fun s' I' _ => h s' I') hf
theorem Inv.call' {s' : Shared} {ch : List Addr} (I : Inv X pins σ H s) (ho : s'.os = s.os) (u : Un (frs X.stack) ch H H' s.heap s'.heap) (hok : HOk X.prog X.w H' s'.heap) (hg : AllBare s'.gens)
    (hch : ∀ b ∈ ch, (b ∈ X.ex ∨ X.s₀.heap.objs.size ≤ b) ∧ b ≠ X.env.locals ∧ (∀ x c, X.env.cells.lookup x = some c → c ≠ b) ∧ ∀ p ∈ X.pn ++ pins, p.1 ≠ b) : Inv X pins σ H' s' := by
  obtain ⟨h', g', d', t', o'⟩ := s'
  have e : o' = s.os := ho
  subst e
  exact I.call (g' := g') (t' := t') (d' := d') u hok hg hch
end

noncomputable abbrev XK := Value → Option Addr → Hp → Prop
noncomputable abbrev St := List (Option V)
noncomputable abbrev VK := V → Hp → Prop
noncomputable abbrev TE := St → Hp → VK → Prop
noncomputable abbrev TT := St → Hp → (Bool → Hp → Prop) → Prop
noncomputable abbrev TA := St → Hp → (List V → Hp → Prop) → Prop
structure Ends where
  nx : St → Hp → Prop
  rt : VK
  bk : St → Hp → Prop := fun _ _ => False
  ct : St → Hp → Prop := fun _ _ => False
noncomputable abbrev TS := Ends → St → Hp → Prop
noncomputable def Ends.sq (D : Ends) (u : TS) : Ends := { D with nx := u D }
noncomputable def Ends.lp (D : Ends) (N : St → Hp → Prop) : Ends := { D with nx := N, ct := N, bk := D.nx }

inductive EP (X : Cx) (pins : List (Addr × Obj)) (σ : St) (Q : VK) (u : Value) (s' : Shared) : Prop
  | mk (v : V) (H' : Hp) (i : Inv X pins σ H' s') (r : RelV v u) (q : Q v H')
inductive TP (X : Cx) (pins : List (Addr × Obj)) (σ : St) (Q : Bool → Hp → Prop) (b : Bool) (s' : Shared) : Prop
  | mk (H' : Hp) (i : Inv X pins σ H' s') (q : Q b H')
inductive AP (X : Cx) (pins : List (Addr × Obj)) (σ : St) (Q : List V → Hp → Prop) (us : List Value) (s' : Shared) : Prop
  | mk (vs : List V) (H' : Hp) (i : Inv X pins σ H' s') (r : Vals vs us) (q : Q vs H')
noncomputable def SP (X : Cx) (pins : List (Addr × Obj)) (D : Ends) (f : Flow) (s' : Shared) : Prop :=
  match f with
  | .next => ∃ σ' H', Inv X pins σ' H' s' ∧ D.nx σ' H'
  | .brk => ∃ σ' H', Inv X pins σ' H' s' ∧ D.bk σ' H'
  | .cont => ∃ σ' H', Inv X pins σ' H' s' ∧ D.ct σ' H'
  | .ret u => ∃ v σ' H', Inv X pins σ' H' s' ∧ RelV v u ∧ D.rt v H'

noncomputable def PE (X : Cx) (e : Expr) (t : TE) : Prop :=
  ∀ (pins : List (Addr × Obj)) (s : Shared) (σ : St) (H : Hp) (Q : VK), Inv X pins σ H s → t σ H Q → wpAny (model X.prog X.w) X.A (eval e X.env) (EP X pins σ Q) X.xe s
noncomputable def PT (X : Cx) (e : Expr) (t : TT) : Prop :=
  ∀ (pins : List (Addr × Obj)) (s : Shared) (σ : St) (H : Hp) (Q : Bool → Hp → Prop), Inv X pins σ H s → t σ H Q → wpAny (model X.prog X.w) X.A (isTrue e X.env (eval e X.env)) (TP X pins σ Q) X.xe s
noncomputable def PW (X : Cx) (e : Expr) (t : TT) : Prop :=
  ∀ (whole : Sem Value) (pins : List (Addr × Obj)) (s : Shared) (σ : St) (H : Hp) (Q : Bool → Hp → Prop), Inv X pins σ H s → t σ H Q → wpAny (model X.prog X.w) X.A (isTrue e X.env whole) (TP X pins σ Q) X.xe s
theorem PW.pt {X : Cx} {e : Expr} {t : TT} (h : PW X e t) : PT X e t := h _
noncomputable def PA (X : Cx) (es : List Expr) (t : TA) : Prop :=
  ∀ (pos : Pos) (pins : List (Addr × Obj)) (s : Shared) (σ : St) (H : Hp) (Q : List V → Hp → Prop), Inv X pins σ H s → t σ H Q → wpAny (model X.prog X.w) X.A (spliced (backTo pos (starEach es X.env))) (AP X pins σ Q) X.xe s
noncomputable def PS (X : Cx) (st : Stmt) (t : TS) : Prop :=
  ∀ (pins : List (Addr × Obj)) (s : Shared) (σ : St) (H : Hp) (D : Ends), Inv X pins σ H s → t D σ H → wpAny (model X.prog X.w) X.A (exec st X.env) (SP X pins D) X.xe s
noncomputable def PSs (X : Cx) (st : List Stmt) (t : TS) : Prop :=
  ∀ (pins : List (Addr × Obj)) (s : Shared) (σ : St) (H : Hp) (D : Ends), Inv X pins σ H s → t D σ H → wpAny (model X.prog X.w) X.A (execs st X.env) (SP X pins D) X.xe s
theorem thn {α : Type} {t : Sem α} {Q Q' : α → Shared → Prop} {M : Model} {A : Around} {E : Value → Shared → Prop} {s : Shared} (h : wpAny M A t Q E s) (hQ : ∀ a s, Q a s → Q' a s) : wpAny M A t Q' E s := wpAny_mono h hQ fun _ _ x => x
end L2

namespace L2
open PySem PySem.Spec PyProof.Rows
section
variable {X : Cx}


inductive tVarP (i : Nat) (σ : St) (H : Hp) (Q : VK) : Prop
  | mk (v : _) (h_0 : σ[i]? = some (some v)) (h_1 : Q v H)
noncomputable def tVar (i : Nat) : TE := fun σ H Q => tVarP i σ H Q
noncomputable def tC (v : V) : TE := fun _ H Q => Q v H
theorem pe_var {i : Nat} {x : Str} {pos : Pos} (hN : X.N[i]? = some x) (hv : Vis X.env.scope x) (hd : (x == ("__debug__" : Str)) = false := by decide) (hcd : (x == ("__classdict__" : Str)) = false := by decide) : PE X (.Name x pos) (tVar i) := by
  intro pins s σ H Q I h
  obtain ⟨v, e, h⟩ := h
  obtain ⟨m, hn, hl⟩ := I.loc
  obtain ⟨u, r, l⟩ := hl i x v hN e hv
  have fin : EP X pins σ Q u s := ⟨v, H, I, r, h⟩
  rcases l with ⟨hk, hm⟩ | ⟨hk, c, hc, hcell⟩
  · exact wpAny_Name (wpAny_loadName_local I.ok.kind hk hn hm fin) hd
  · rcases hk with hk | hk
    · exact wpAny_Name (wpAny_loadName_cell I.ok.kind hk hc hcell fin) hd
    · exact wpAny_Name (wpAny_loadName_free I.ok.kind hk hc hcell fin hcd) hd
theorem pe_int {i j pos} : PE X (.Constant (.int i) j pos) (tC (.int i)) := fun _ _ _ H _ I h => wpAny_Constant_int ⟨.int i, H, I.tok _, ⟨_, rfl⟩, h⟩
theorem pe_bl {b j pos} : PE X (.Constant (.bool b) j pos) (tC (.bl b)) := fun _ _ _ H _ I h => Constant_bool ⟨.bl b, H, I, rfl, h⟩
theorem pe_non {j pos} : PE X (.Constant .none j pos) (tC .non) := fun _ _ _ H _ I h => Constant_none ⟨.non, H, I, rfl, h⟩
theorem pe_str {x j pos} : PE X (.Constant (.str x) j pos) (tC (.str x)) := fun _ _ _ H _ I h => Calls.Constant_str ⟨.str x, H, I.tok _, ⟨_, rfl⟩, h⟩

noncomputable def Gl (X : Cx) (x : Str) : Prop := X.env.kindOf x = some .globalImplicit
theorem ld_glob {E : Value → Shared → Prop} {pins : List (Addr × Obj)} {s : Shared} {σ : St} {H : Hp} {x : Str} {u : Value} {pos : Pos} {Q : Value → Shared → Prop} (I : Inv X pins σ H s) (hg : Gl X x) (hm : X.mg x = some u) (h : Q u s)
    (hd : (x == ("__debug__" : Str)) = false := by decide) : wpAny (model X.prog X.w) X.A (eval (.Name x pos) X.env) Q E s :=
  Calls.Name_function_global I.ok.kind hg (Calls.loadGlobal_global (by rw [I.ok.glob]; exact I.mod.glob.keeps I.bk) hm h) hd
theorem ld_blt {E : Value → Shared → Prop} {pins : List (Addr × Obj)} {s : Shared} {σ : St} {H : Hp} {x : Str} {u : Value} {pos : Pos} {Q : Value → Shared → Prop} (I : Inv X pins σ H s) (hg : Gl X x) (hm : X.mg x = none) (hv : bootBuiltins x = some u) (h : Q u s)
    (hn : x ≠ "__name__" := by decide) (hd : (x == ("__debug__" : Str)) = false := by decide) : wpAny (model X.prog X.w) X.A (eval (.Name x pos) X.env) Q E s := by
  obtain ⟨mb, h1, h2⟩ := I.mod.blt
  exact Calls.Name_function_global I.ok.kind hg (Calls.loadGlobal_builtin (by rw [I.ok.glob]; exact I.mod.glob.keeps I.bk) hm (by rw [I.ok.blt]; exact h1.keeps I.bk) ((h2 x hn).trans hv) h) hd
theorem pe_glob {x : Str} {v : V} {u : Value} {pos : Pos} (hg : Gl X x) (hm : X.mg x = some u) (r : RelV v u) (hd : (x == ("__debug__" : Str)) = false := by decide) : PE X (.Name x pos) (tC v) :=
  fun _ _ _ H _ I h => ld_glob I hg hm ⟨v, H, I, r, h⟩ hd
theorem pe_bltn {x : Str} {v : V} {u : Value} {pos : Pos} (hg : Gl X x) (hm : X.mg x = none) (hv : bootBuiltins x = some u) (r : RelV v u) (hn : x ≠ "__name__" := by decide) (hd : (x == ("__debug__" : Str)) = false := by decide) : PE X (.Name x pos) (tC v) :=
  fun _ _ _ H _ I h => ld_blt I hg hm hv ⟨v, H, I, r, h⟩ hn hd

variable {a b : Expr} {ta tb : TE} {pos : Pos}

noncomputable def PC (X : Cx) (op : CmpOp) (a b : Expr) (t : TE) : Prop :=
  ∀ (pins : List (Addr × Obj)) (s : Shared) (σ : St) (H : Hp) (Q : VK), Inv X pins σ H s → t σ H Q →
    wpAny (model X.prog X.w) X.A (eval a X.env) (fun v s₁ => wpAny (model X.prog X.w) X.A (eval b X.env) (fun u s₂ => wpAny (model X.prog X.w) X.A (compareOp op v u) (EP X pins σ Q) X.xe s₂) X.xe s₁) X.xe s
inductive BoolP (x : V) (H : Hp) (Q : Bool → Hp → Prop) : Prop
  | mk (c : Bool) (h : x = .bl c) (q : Q c H)
noncomputable def tB (t : TE) : TT := fun σ H Q => t σ H fun x H1 => BoolP x H1 Q
theorem pt_cmp {op : CmpOp} {t : TE} (h : PC X op a b t) (h1 : behindInMarks op b = false := by first | exact nobehind _ (by decide) (by decide) | rfl) : PT X (.Compare a [op] [b] pos) (tB t) := by
  intro pins s σ H Q I hw
  refine wpAny_isTrue_Compare1 (thn (h pins s σ H _ I hw) fun v s1 h1 => thn h1 fun u s2 h2 => thn h2 fun c s3 ⟨x, H1, I1, r1, q1⟩ => ?_) h1
  obtain ⟨d, rfl, q⟩ := q1
  cases r1
  exact wpAny_truthy_bool ⟨H1, I1, q⟩
theorem pt_val {e : Expr} {t : TE} (h : PE X e t) (he : ∀ whole, isTrue e X.env whole = (do let v ← whole; standAt e.pos; holding [v] (truthy v)) := by intro _; rfl) : PT X e (tB t) := by
  intro pins s σ H Q I hw
  refine isTrue_plain (thn (h pins s σ H _ I hw) fun v s1 ⟨x, H1, I1, r1, q1⟩ => ?_) (he _)
  obtain ⟨d, rfl, q⟩ := q1
  cases r1
  exact wpAny_truthy_bool ⟨H1, I1, q⟩

variable {tA tB' : TT} {rest : List Expr}
noncomputable def tAnd (t u : TT) : TT := fun σ H Q => t σ H fun c H1 => if c = true then u σ H1 Q else Q false H1
noncomputable def tOr (t u : TT) : TT := fun σ H Q => t σ H fun c H1 => if c = true then Q true H1 else u σ H1 Q
noncomputable def tNot (t : TT) : TT := fun σ H Q => t σ H fun c H1 => Q (!c) H1
theorem pw_and1 (ha : PT X a tA) : PW X (.BoolOp .And [a] pos) tA := by
  intro wh pins s σ H Q I h
  refine isTrue_and (thn (ha pins s σ H Q I h) fun c s1 e => ?_)
  cases c with
  | true => exact isTrue_and_nil e
  | false => exact e
theorem pw_or1 (ha : PT X a tA) : PW X (.BoolOp .Or [a] pos) tA := by
  intro wh pins s σ H Q I h
  refine isTrue_or (thn (ha pins s σ H Q I h) fun c s1 e => ?_)
  cases c with
  | false => exact isTrue_or_nil e
  | true => exact e
theorem pw_and (ha : PT X a tA) (hb : PW X (.BoolOp .And (b :: rest) pos) tB') : PW X (.BoolOp .And (a :: b :: rest) pos) (tAnd tA tB') := by
  intro wh pins s σ H Q I h
  refine isTrue_and (thn (ha pins s σ H _ I h) fun c s1 z_ => ?_)
  obtain ⟨H1, I1, q1⟩ := z_
  cases c with
  | true => exact hb wh pins s1 σ H1 Q I1 q1
  | false => exact ⟨H1, I1, q1⟩
theorem pw_or (ha : PT X a tA) (hb : PW X (.BoolOp .Or (b :: rest) pos) tB') : PW X (.BoolOp .Or (a :: b :: rest) pos) (tOr tA tB') := by
  intro wh pins s σ H Q I h
  refine isTrue_or (thn (ha pins s σ H _ I h) fun c s1 z_ => ?_)
  obtain ⟨H1, I1, q1⟩ := z_
  cases c with
  | true => exact ⟨H1, I1, q1⟩
  | false => exact hb wh pins s1 σ H1 Q I1 q1
theorem pt_not (ha : PT X a tA) : PT X (.UnaryOp .Not a pos) (tNot tA) := by
  intro pins s σ H Q I h
  exact isTrue_not (thn (ha pins s σ H (fun c H1 => Q (!c) H1) I h) fun c s1 ⟨H1, I1, q1⟩ => ⟨H1, I1, q1⟩)
noncomputable def tAndV (ta tb : TE) : TE := fun σ H Q => ta σ H fun x H1 => BoolP x H1 fun c H1 => if c = true then tb σ H1 Q else Q (.bl false) H1
theorem pe_one {op} {t : TE} (h : PE X a t) : PE X (.BoolOp op [a] pos) t := fun pins s σ H Q I hw => BoolOp_one (h pins s σ H Q I hw)
theorem pe_and (ha : PE X a ta) (hb : PE X (.BoolOp .And (b :: rest) pos) tb) : PE X (.BoolOp .And (a :: b :: rest) pos) (tAndV ta tb) := by
  intro pins s σ H Q I h
  refine BoolOp_and (thn (ha pins s σ H _ I h) fun v s1 z_ => ?_)
  obtain ⟨x, H1, I1, r1, q1⟩ := z_
  obtain ⟨c, rfl, q1⟩ := q1
  cases r1
  refine wpAny_truthy_bool ?_
  cases c with
  | true => exact hb pins s1 σ H1 Q I1 q1
  | false => exact ⟨.bl false, H1, I1, rfl, q1⟩
end
end L2

namespace L2
open PySem PySem.Spec PyProof.Rows

noncomputable def SqL (K : PySem.W.Frag) (H : Hp) (a : Addr) (xs : List V) : Prop :=
  Rd H a (.lst xs) ∨
    ∃ (o : Obj) (its : Array Value) (n : Nat), K.lookup a = some o ∧ o.cls = .type "list" ∧ o.dict = none ∧ o.data = .seq its n ∧ its.size ≤ sizeLine ∧ Vals xs its.toList
noncomputable def SqT (K : PySem.W.Frag) (H : Hp) (a : Addr) (xs : List V) : Prop :=
  Rd H a (.tup xs) ∨
    ∃ (o : Obj) (its : Array Value) (n : Nat), K.lookup a = some o ∧ o.cls = .type "tuple" ∧ o.data = .seq its n ∧ its.size ≤ sizeLine ∧ Vals xs its.toList
noncomputable def absV : Value → Option V
  | .none => some .non
  | .bool b => some (.bl b)
  | .int i _ => some (.int i)
  | .str x _ => some (.str x)
  | .bytes b _ => some (.byt b)
  | .float b _ => some (.flt b)
  | .ref a => some (.ref a)
  | .type n => some (.ty n)
  | _ => none
theorem RelV.abs {x : V} {u : Value} (r : RelV x u) : absV u = some x := by
  cases x with
  | non => cases r; rfl
  | bl _ => cases r; rfl
  | int _ => obtain ⟨t, rfl⟩ := r; rfl
  | str _ => obtain ⟨t, rfl⟩ := r; rfl
  | byt _ => obtain ⟨t, rfl⟩ := r; rfl
  | flt _ => obtain ⟨t, rfl⟩ := r; rfl
  | ref _ => cases r; rfl
  | ty _ => cases r; rfl
theorem RelV.inj {x y : V} {u : Value} (r : RelV x u) (q : RelV y u) : x = y := Option.some.inj (r.abs.symm.trans q.abs)
theorem Vals.inj {xs ys : List V} {us : List Value} (h : Vals xs us) (k : Vals ys us) : xs = ys := by
  induction h generalizing ys with
  | nil => cases k; rfl
  | cons r t ih => cases k with
    | cons r' t' => rw [r.inj r', ih t']
section
variable {X : Cx} {pins : List (Addr × Obj)} {σ : St} {H : Hp} {s : Shared} {a : Addr} {xs ys : List V}
theorem SqL.of {K : PySem.W.Frag} (h : H a = some (.lst xs)) : SqL K H a xs := .inl (.inl h)
theorem SqT.of {K : PySem.W.Frag} (h : H a = some (.tup xs)) : SqT K H a xs := .inl (.inl h)
theorem Inv.list (I : Inv X pins σ H s) (h : SqL X.K H a xs) : ∃ its : List Value, Vals xs its ∧ PlainL s.heap a its.toArray ∧ xs.length ≤ sizeLine := by
  rcases h with h | ⟨o, its, n, hk, hc, hd, hs, hz, r⟩
  · obtain ⟨z, its, n, r, e⟩ := h.ok I.hok
    exact ⟨its, r, ⟨_, n, e, rfl, rfl, rfl⟩, z⟩
  · refine ⟨its.toList, r, ⟨o, n, I.kIn a o hk, hc, hd, by simpa using hs⟩, ?_⟩
    have e := r.length
    simp only [Array.length_toList] at e
    lia
theorem Inv.tuple (I : Inv X pins σ H s) (h : SqT X.K H a xs) : ∃ its : List Value, Vals xs its ∧ IsTup s.heap a its.toArray ∧ xs.length ≤ sizeLine := by
  rcases h with h | ⟨o, its, n, hk, hc, hs, hz, r⟩
  · obtain ⟨z, its, r, p⟩ := h.ok I.hok
    exact ⟨its, r, p, z⟩
  · refine ⟨its.toList, r, ⟨o, I.kIn a o hk, hc, n, by simpa using hs⟩, ?_⟩
    have e := r.length
    simp only [Array.length_toList] at e
    lia
theorem Inv.list_inj (I : Inv X pins σ H s) (h : SqL X.K H a xs) (h' : SqL X.K H a ys) : xs = ys := by
  obtain ⟨its, r, ⟨o, n, e, _, _, d⟩, _⟩ := I.list h
  obtain ⟨its', r', ⟨o', n', e', _, _, d'⟩, _⟩ := I.list h'
  rw [e] at e'; cases e'
  rw [d] at d'
  injection d' with d1 _
  have : its = its' := by simpa using congrArg Array.toList d1
  subst this
  exact r.inj r'
theorem Inv.tuple_inj (I : Inv X pins σ H s) (h : SqT X.K H a xs) (h' : SqT X.K H a ys) : xs = ys := by
  obtain ⟨its, r, ⟨o, e, _, n, d⟩, _⟩ := I.tuple h
  obtain ⟨its', r', ⟨o', e', _, n', d'⟩, _⟩ := I.tuple h'
  rw [e] at e'; cases e'
  rw [d] at d'
  injection d' with d1 _
  have : its = its' := by simpa using congrArg Array.toList d1
  subst this
  exact r.inj r'
end

noncomputable abbrev Cx.wish (X : Cx) (E : Value → Shared → Prop) : Cx := { X with xe := E }
noncomputable abbrev Cx.nox (X : Cx) : Cx := X.wish fun _ _ => False
theorem Cx.Ok.wish {X : Cx} (ok : X.Ok) (E : Value → Shared → Prop) : (X.wish E).Ok :=
  ⟨ok.mod, ok.kind, ok.glob, ok.blt, ok.above, ok.inj, ok.has, ok.cab, ok.hd, ok.frames, ok.stk, ok.exf, ok.bs, ok.bsz, ok.noex, ok.exfs, ok.funs, ok.frf⟩
theorem Cx.Ok.unwish {X : Cx} {E : Value → Shared → Prop} (ok : (X.wish E).Ok) : X.Ok :=
  ⟨ok.mod, ok.kind, ok.glob, ok.blt, ok.above, ok.inj, ok.has, ok.cab, ok.hd, ok.frames, ok.stk, ok.exf, ok.bs, ok.bsz, ok.noex, ok.exfs, ok.funs, ok.frf⟩
section
variable {X : Cx} {pins : List (Addr × Obj)} {σ : St} {H : Hp} {s : Shared} {E : Value → Shared → Prop}
theorem Inv.wish (I : Inv X pins σ H s) (E : Value → Shared → Prop) : Inv (X.wish E) pins σ H s := ⟨I.ok.wish E, I.os, I.bare, I.base, I.loc, I.cell, I.free, I.freeC, I.pin, I.hok, I.len⟩
theorem Inv.unwish (I : Inv (X.wish E) pins σ H s) : Inv X pins σ H s := ⟨I.ok.unwish, I.os, I.bare, I.base, I.loc, I.cell, I.free, I.freeC, I.pin, I.hok, I.len⟩
theorem SP.unwish {D : Ends} {f : Flow} {s' : Shared} (h : SP (X.wish E) pins D f s') : SP X pins D f s' := by
  cases f with
  | next => obtain ⟨σ', H', I, q⟩ := h; exact ⟨σ', H', I.unwish, q⟩
  | brk => obtain ⟨σ', H', I, q⟩ := h; exact ⟨σ', H', I.unwish, q⟩
  | cont => obtain ⟨σ', H', I, q⟩ := h; exact ⟨σ', H', I.unwish, q⟩
  | ret u => obtain ⟨v, σ', H', I, r, q⟩ := h; exact ⟨v, σ', H', I.unwish, r, q⟩
theorem PSs.nox {st : List Stmt} {t : TS} (h : PSs X.nox st t) : PSs X st t := fun pins s σ H D I hw =>
  wpAny_mono (h pins s σ H D (I.wish _) hw) (fun _ _ q => q.unwish) fun _ _ z => False.elim z
end

section
variable {X : Cx} {st : Stmt} {rest : List Stmt} {t u : TS} {e : Expr} {te : TE} {pos : Pos}
noncomputable def tNext : TS := fun D σ H => D.nx σ H
noncomputable def tSeq (t u : TS) : TS := fun D σ H => t (D.sq u) σ H
theorem pss_nil : PSs X [] tNext := fun _ _ σ H _ I h => wpAny_execs_nil ⟨σ, H, I, h⟩
theorem pss_cons (h1 : PS X st t) (h2 : PSs X rest u) : PSs X (st :: rest) (tSeq t u) := by
  intro pins s σ H D I h
  refine wpAny_execs_cons (thn (h1 pins s σ H (D.sq u) I h) fun f s1 q => ?_)
  cases f with
  | next =>
    obtain ⟨σ', H', I', q⟩ := q
    exact h2 pins s1 σ' H' D I' q
  | ret v => exact q
  | brk => exact q
  | cont => exact q
theorem pss_one (h1 : PS X st t) : PSs X [st] t := by
  intro pins s σ H D I h
  refine wpAny_execs_cons (thn (h1 pins s σ H D I h) fun f s1 q => ?_)
  cases f with
  | next => exact wpAny_execs_nil q
  | ret v => exact q
  | brk => exact q
  | cont => exact q
theorem Inv.quiet {pins : List (Addr × Obj)} {σ : St} {H : Hp} {s : Shared} (I : Inv X pins σ H s) : interactive X.env = false := by simp [interactive, I.ok.kind]
noncomputable def tDrop (te : TE) : TS := fun D σ H => te σ H fun _ H1 => D.nx σ H1
theorem ps_expr (he : PE X e te) (hs : swapsWith e none pos.line X.env = pure false := by rfl) : PS X (.Expr e pos) (tDrop te) := by
  intro pins s σ H D I h
  exact wpAny_Expr_any (thn (he pins s σ H _ I h) fun v s1 ⟨x, H1, I1, r1, q1⟩ => ⟨σ, H1, I1, q1⟩) I.quiet hs
noncomputable def tRet (te : TE) : TS := fun D σ H => te σ H D.rt
theorem ps_ret (he : PE X e te) : PS X (.Return (some e) pos) (tRet te) := by
  intro pins s σ H D I h
  exact wpAny_Return_some (thn (he pins s σ H _ I h) fun v s1 ⟨x, H1, I1, r1, q1⟩ => ⟨x, σ, H1, I1, r1, q1⟩)
noncomputable def tIfS (c : TT) (t u : TS) : TS := fun D σ H => c σ H fun b H1 => if b = true then t D σ H1 else u D σ H1
theorem ps_if {c : Expr} {a b : List Stmt} {tc : TT} (hc : PT X c tc) (ha : PSs X a t) (hb : PSs X b u) : PS X (.If c a b pos) (tIfS tc t u) := by
  intro pins s σ H D I h
  refine wpAny_If (thn (hc pins s σ H _ I h) fun d s1 z_ => ?_)
  obtain ⟨H1, I1, q1⟩ := z_
  cases d with
  | true => exact ha pins s1 σ H1 D I1 q1
  | false => exact hb pins s1 σ H1 D I1 q1
noncomputable def tNever : TS := fun _ _ _ => False
theorem ps_never : PS X st tNever := fun _ _ _ _ _ _ h => h.elim
end

noncomputable abbrev TG := V → St → Hp → (St → Hp → Prop) → Prop
noncomputable abbrev TGs := List V → St → Hp → (St → Hp → Prop) → Prop
noncomputable def PG (X : Cx) (target : Expr) (t : TG) : Prop :=
  ∀ (pins : List (Addr × Obj)) (s : Shared) (σ : St) (H : Hp) (v : V) (u : Value) (Q : St → Hp → Prop), Inv X pins σ H s → RelV v u → t v σ H Q →
    wpAny (model X.prog X.w) X.A (assign target X.env u) (fun _ s' => ∃ σ' H', Inv X pins σ' H' s' ∧ Q σ' H') X.xe s
noncomputable def PGs (X : Cx) (ts : List Expr) (t : TGs) : Prop :=
  ∀ (pins : List (Addr × Obj)) (s : Shared) (σ : St) (H : Hp) (vs : List V) (us : List Value) (Q : St → Hp → Prop), Inv X pins σ H s → Vals vs us → t vs σ H Q →
    wpAny (model X.prog X.w) X.A (assignInOrder ((assignEach ts X.env).map (·.2)) us) (fun _ s' => ∃ σ' H', Inv X pins σ' H' s' ∧ Q σ' H') X.xe s
noncomputable abbrev TSet := V → V → V → Hp → (Hp → Prop) → Prop
noncomputable def PSet (X : Cx) (t : TSet) : Prop :=
  ∀ (pins : List (Addr × Obj)) (s : Shared) (σ : St) (H : Hp) (o i v : V) (ov iv u : Value) (Q : Hp → Prop), Inv X pins σ H s → RelV o ov → RelV i iv → RelV v u → t o i v H Q →
    wpAny (model X.prog X.w) X.A (setItem ov iv u) (fun _ s' => ∃ H', Inv X pins σ H' s' ∧ Q H') X.xe s
noncomputable abbrev TIp := V → V → Hp → VK → Prop
noncomputable def PIp (X : Cx) (op : Operator) (t : TIp) : Prop :=
  ∀ (pins : List (Addr × Obj)) (s : Shared) (σ : St) (H : Hp) (x y : V) (v u : Value) (Q : VK), Inv X pins σ H s → RelV x v → RelV y u → t x y H Q →
    wpAny (model X.prog X.w) X.A (inplaceOp op v u) (EP X pins σ Q) X.xe s
section
variable {X : Cx} {pos : Pos}
noncomputable def gName (i : Nat) : TG := fun v σ H Q => Q (σ.set i (some v)) H
theorem pg_name {i : Nat} {x : Str} (hN : X.N.Nodup) (hi : X.N[i]? = some x) (hx : Loc X.env.scope x) (hf : X.fn x = true ∨ X.env.scope.names.lookup x = some .local := by first | exact .inl rfl | exact .inr rfl | assumption) : PG X (.Name x pos) (gName i) := by
  intro pins s σ H v u Q I r h
  exact wpAny_assign_Name (store_ok I hN hi hx r (fun s' I' => ⟨_, H, I', h⟩) hf)
noncomputable def gNil : TGs := fun vs σ H Q => vs = [] ∧ Q σ H
noncomputable def gCons (t : TG) (u : TGs) : TGs := fun vs σ H Q => ∃ v r, vs = v :: r ∧ t v σ H fun σ' H' => u r σ' H' Q
theorem pgs_nil : PGs X [] gNil := by
  intro pins s σ H vs us Q I r h
  obtain ⟨e, h⟩ := h
  subst e
  cases r
  exact assignInOrder_nil ⟨σ, H, I, h⟩
theorem pgs_cons {e : Expr} {es : List Expr} {t : TG} {u : TGs} (h1 : PG X e t) (h2 : PGs X es u)
    (hs : (assignEach (e :: es) X.env).map (·.2) = assign e X.env :: (assignEach es X.env).map (·.2) := by rfl) : PGs X (e :: es) (gCons t u) := by
  intro pins s σ H vs us Q I r h
  obtain ⟨v, vr, e1, h⟩ := h
  subst e1
  cases r with
  | cons r rr =>
    rw [hs]
    refine assignInOrder_cons (thn (h1 pins s σ H _ _ _ I r h) fun _ s1 z_ => ?_)
    obtain ⟨σ1, H1, I1, q1⟩ := z_
    exact h2 pins s1 σ1 H1 _ _ Q I1 rr q1
noncomputable def gTup (K : PySem.W.Frag) (n : Nat) (t : TGs) : TG := fun v σ H Q => ∃ a xs, v = .ref a ∧ SqT K H a xs ∧ xs.length = n ∧ t xs σ H Q
theorem pg_tup {es : List Expr} {k : Nat} {t : TGs} {n : Nat} (hc : X.calm = true) (h : PGs X es t)
    (hn : (assignEach es X.env).length = n := by rfl) (hst : (assignEach es X.env).findIdx? (·.1) = none := by rfl) : PG X (.Tuple es k pos) (gTup X.K n t) := by
  intro pins s σ H v u Q I r hw
  obtain ⟨a, xs, e1, hq, hl, hw⟩ := hw
  subst e1
  cases r
  obtain ⟨its, rv, ht, hz⟩ := I.tuple hq
  refine assign_Tuple_tuple (I.ok.hd hc) ht (by simp [hn, ← hl, rv.length]) hst fun h' hx => ?_
  have I1 : Inv X pins σ H { s with heap := h' } := I.kept (t' := s.toks) fun b o e => hx b o (Nat.ne_of_lt (Heap.lt_size e)) e
  exact h pins _ σ H xs _ Q I1 (by simpa using rv) hw
noncomputable def tAsg (te : TE) (g : TG) : TS := fun D σ H => te σ H fun x H1 => g x σ H1 D.nx
theorem ps_set {i : Nat} {x : Str} {e : Expr} {te : TE} {pos' : Pos} (hN : X.N.Nodup) (hi : X.N[i]? = some x) (hx : Loc X.env.scope x) (he : PE X e te) (hs : swapsWith e (some (.Name x pos')) pos.line X.env = pure false := by rfl) (hf : X.fn x = true ∨ X.env.scope.names.lookup x = some .local := by first | exact .inl rfl | exact .inr rfl | assumption) :
    PS X (.Assign [.Name x pos'] e pos) (tAsg te (gName i)) := by
  intro pins s σ H D I h
  refine wpAny_Assign_Name (thn (he pins s σ H _ I h) fun v s1 ⟨y, H1, I1, r1, q1⟩ => ?_) hs
  exact store_ok I1 hN hi hx r1 (fun s2 I2 => ⟨_, H1, I2, q1⟩) hf
noncomputable def tAugS (to ti te : TE) (tget : V → V → Hp → VK → Prop) (tip : TIp) (tset : TSet) : TS := fun D σ H => to σ H fun o H1 => ti σ H1 fun i H2 => tget o i H2 fun x H3 => te σ H3 fun y H4 => tip x y H4 fun z H5 => tset o i z H5 fun H6 => D.nx σ H6
noncomputable def PGet (X : Cx) (t : V → V → Hp → VK → Prop) : Prop :=
  ∀ (pins : List (Addr × Obj)) (s : Shared) (σ : St) (H : Hp) (o i : V) (ov iv : Value) (Q : VK), Inv X pins σ H s → RelV o ov → RelV i iv → t o i H Q →
    wpAny (model X.prog X.w) X.A (getItem ov iv) (EP X pins σ Q) X.xe s
theorem ps_augS {o i e : Expr} {to ti te : TE} {tget : V → V → Hp → VK → Prop} {tip : TIp} {tset : TSet} {op : Operator} {tpos : Pos} (ho : PE X o to) (hi : PE X i ti) (hg : PGet X tget) (he : PE X e te) (hp : PIp X op tip) (hs : PSet X tset)
    (ha : ∀ ov iv new, augStore i ov iv new = (do holding [new, ov, iv] (setItem ov iv new); release [new, ov, iv] []; pure .next) := by intros; rfl) : PS X (.AugAssign (.Subscript o i tpos) op e pos) (tAugS to ti te tget tip tset) := by
  intro pins s σ H D I h
  refine wpAny_AugAssign_SubscriptAny (thn (ho pins s σ H _ I h) fun ov s1 ⟨x1, H1, I1, r1, q1⟩ => ?_) ha
  refine thn (hi pins s1 σ H1 _ I1 q1) fun iv s2 z_ => ?_
  obtain ⟨x2, H2, I2, r2, q2⟩ := z_
  refine thn (hg pins s2 σ H2 x1 x2 ov iv _ I2 r1 r2 q2) fun old s3 z_ => ?_
  obtain ⟨x3, H3, I3, r3, q3⟩ := z_
  refine thn (he pins s3 σ H3 _ I3 q3) fun v s4 z_ => ?_
  obtain ⟨x4, H4, I4, r4, q4⟩ := z_
  refine thn (hp pins s4 σ H4 x3 x4 old v _ I4 r3 r4 q4) fun new s5 z_ => ?_
  obtain ⟨x5, H5, I5, r5, q5⟩ := z_
  exact thn (hs pins s5 σ H5 x1 x2 x5 ov iv new _ I5 r1 r2 r5 q5) fun _ s6 ⟨H6, I6, q6⟩ => ⟨σ, H6, I6, q6⟩
noncomputable def ipI (f : Int → Int → Int) : TIp := fun x y H Q => ∃ i j, x = .int i ∧ y = .int j ∧ Q (.int (f i j)) H
theorem ip_add : PIp X .Add (ipI fun i j => i + j) := by
  intro pins s σ H x y v u Q I r1 r2 h
  obtain ⟨i, j, e1, e2, q⟩ := h
  subst e1; subst e2
  obtain ⟨t, rfl⟩ := r1
  obtain ⟨t', rfl⟩ := r2
  exact iadd_int ⟨.int _, H, I.tok _, ⟨_, rfl⟩, q⟩
end

section
variable {X : Cx} {pos : Pos}
noncomputable def tWhile (c : TT) (tb : TS) : TS := fun D σ H => ∃ W : Nat → St → Hp → Prop, (∃ m, W m σ H) ∧ ∀ m σ H, W m σ H →
  c σ H fun b H1 => if b = true then ∃ N : St → Hp → Prop, (∀ σ' H', N σ' H' → ∃ m', m' < m ∧ W m' σ' H') ∧ tb (D.lp N) σ H1 else D.nx σ H1
theorem ps_while {c : Expr} {body : List Stmt} {tc : TT} {tb : TS} (hp : PassesOwn (model X.prog X.w) X.A X.env X.xe) (hc : PT X c tc) (hb : PSs X body tb) : PS X (.While c body [] pos) (tWhile tc tb) := by
  intro pins s σ H D I h
  obtain ⟨W, ⟨m0, w0⟩, turn⟩ := h
  refine wpAny_While (codeAny_whileLoop (fun n s' => ∃ σ' H', Inv X pins σ' H' s' ∧ W n σ' H') ?_ m0 ⟨σ, H, I, w0⟩)
  rintro n s1 ⟨σ1, H1, I1, w1⟩
  refine wpAny_passesOwn hp (thn (hc pins s1 σ1 H1 _ I1 (turn n σ1 H1 w1)) fun b s2 z_ => ?_)
  obtain ⟨H2, I2, q2⟩ := z_
  cases b with
  | true =>
    obtain ⟨N, hN, q2⟩ := q2
    rw [if_pos rfl]
    refine wpAny_passesOwn hp (thn (hb pins s2 σ1 H2 _ I2 q2) fun f s3 q3 => ?_)
    cases f with
    | next =>
      obtain ⟨σ3, H3, I3, n3⟩ := q3
      obtain ⟨m', hm, w3⟩ := hN σ3 H3 n3
      exact ⟨m', hm, σ3, H3, I3, w3⟩
    | cont =>
      obtain ⟨σ3, H3, I3, n3⟩ := q3
      obtain ⟨m', hm, w3⟩ := hN σ3 H3 n3
      exact ⟨m', hm, σ3, H3, I3, w3⟩
    | brk => exact q3
    | ret v => exact q3
  | false =>
    rw [if_neg Bool.false_ne_true]
    exact wpAny_execs_nil ⟨σ1, H2, I2, q2⟩
end

structure It where
  go : Nat → Hp → Prop
  yld : Nat → Hp → V → Hp → Prop
  stop : Nat → Hp → Prop
noncomputable def FpOk (X : Cx) (pins : List (Addr × Obj)) (H : Hp) (b : Addr) : Prop :=
  H b = none ∧ b ≠ X.env.locals ∧ b ∉ X.fs ∧ (b ∈ X.ex ∨ X.s₀.heap.objs.size ≤ b) ∧ (∀ x c, X.env.cells.lookup x = some c → c ≠ b) ∧ ∀ p ∈ X.pn ++ pins, p.1 ≠ b
theorem Inv.fpOk {X : Cx} {pins : List (Addr × Obj)} {σ : St} {H H' : Hp} {s : Shared} {b : Addr} (I : Inv X pins σ H s) (hb : s.heap.objs.size ≤ b) (hn : H' b = none) : FpOk X pins H' b := by
  refine ⟨hn, Nat.ne_of_gt (Nat.lt_of_lt_of_le I.lt hb), I.nofs hb, .inr (Nat.le_trans I.sz hb), fun x c e z => ?_, fun p hp z => ?_⟩
  · obtain ⟨v, q⟩ := I.cell x c e
    exact absurd (Nat.lt_of_lt_of_le q.lt (by rw [z]; exact hb)) (Nat.lt_irrefl _)
  · exact absurd (Nat.lt_of_lt_of_le (Heap.lt_size (I.pin p hp).1) (by rw [z]; exact hb)) (Nat.lt_irrefl _)
structure Turn (P : Program) (w : World) (K : PySem.W.Frag) (tg : Expr) (J : It) (fp : List Addr) (it : Addr) (tn : Nat → Heap → Prop) : Prop where
  mem : it ∈ fp
  obj : ∀ i h, tn i h → ∀ b ∈ fp, ∃ o, h.get? b = some o ∧ ∀ v, o.data ≠ .cell v
  keep : ∀ i h h', tn i h → (∀ b ∈ fp, ∀ o, h.get? b = some o → h'.get? b = some o) → tn i h'
  item : ∀ (X : Cx), X.prog = P → X.w = w → X.K = K → X.calm = true → ∀ (i : Nat) (pins : List (Addr × Obj)) (s : Shared) (σ : St) (H : Hp) (E : Value → Shared → Prop), Inv X pins σ H s → (∀ b ∈ fp, FpOk X pins H b) → tn i s.heap → J.go i H →
    wpAny (model P w) X.A (pyNext (.ref it)) (fun r s1 => ∃ u, r = some u ∧
      wpAny (model P w) X.A (letOwnedTupleGo tg (.ref it) u) (fun _ s2 => ∃ x H', Inv X pins σ H' s2 ∧ RelV x u ∧ J.yld i H x H' ∧ tn (i + 1) s2.heap ∧ ∀ b ∈ fp, H' b = none) E s1) E s
  done : ∀ (X : Cx), X.prog = P → X.w = w → X.K = K → X.calm = true → ∀ (i : Nat) (pins : List (Addr × Obj)) (s : Shared) (σ : St) (H : Hp) (E : Value → Shared → Prop), Inv X pins σ H s → (∀ b ∈ fp, FpOk X pins H b) → tn i s.heap → J.stop i H →
    wpAny (model P w) X.A (pyNext (.ref it)) (fun r s1 => r = none ∧ Inv X pins σ H s1) E s
  self : ∀ (A : Around) (i : Nat) (s : Shared) (Q : Value → Shared → Prop) (E : Value → Shared → Prop), tn i s.heap → Q (.ref it) s → wpAny (model P w) A (pyIter (.ref it)) Q E s
noncomputable abbrev TI := St → Hp → (It → Hp → Prop) → Prop
noncomputable def PIE (X : Cx) (pins : List (Addr × Obj)) (σ : St) (tg : Expr) (R : It → Hp → Prop) (itv : Value) (s2 : Shared) : Prop :=
  ∃ (it : Addr) (fp : List Addr) (tn : Nat → Heap → Prop) (J : It) (H' : Hp), itv = .ref it ∧ Inv X pins σ H' s2 ∧ Turn X.prog X.w X.K tg J fp it tn ∧ tn 0 s2.heap ∧ (∀ b ∈ fp, FpOk X pins H' b) ∧ R J H'
noncomputable def PI (X : Cx) (tg iter : Expr) (wi : TI) : Prop :=
  ∀ (pins : List (Addr × Obj)) (s : Shared) (σ : St) (H : Hp) (R : It → Hp → Prop), Inv X pins σ H s → wi σ H R →
    wpAny (model X.prog X.w) X.A (eval iter X.env) (fun v s1 => wpAny (model X.prog X.w) X.A (pyIter v) (PIE X pins σ tg R) X.xe s1) X.xe s

theorem go_of {M : Model} {A : Around} {E : Value → Shared → Prop} {s : Shared} {tg : Expr} {it : Addr} {u : Value} {o : Obj} {n : String} {vs : Array Value} {Q : Unit → Shared → Prop} (ho : s.heap.get? it = some o) (hc : o.cls = .type n) (hd : o.data = .fields vs)
    (hn : ["enumerate", "zip", "dict_itemiterator", "dict_reverseitemiterator", "odict_iterator", "itertools.zip_longest", "itertools.pairwise"].contains n = false) (hQ : Q () s) : wpAny M A (letOwnedTupleGo tg (.ref it) u) Q E s := by
  unfold letOwnedTupleGo
  cases tg <;> first
    | exact wpAny_pure hQ
    | (cases u <;> first
        | exact wpAny_pure hQ
        | (refine wpAny_bind (wpAny_load ho ?_)
           rw [hc, hd]
           show wpAny M A (if (["enumerate", "zip", "dict_itemiterator", "dict_reverseitemiterator", "odict_iterator", "itertools.zip_longest", "itertools.pairwise"].contains n && vs[0]? == some (rawInt _)) = true then _ else _) Q E s
           rw [if_neg (by intro h; rw [hn, Bool.false_and] at h; cases h)]
           exact wpAny_pure hQ))

noncomputable def Itl (K : PySem.W.Frag) (a : Addr) : It :=
  ⟨fun i H => ∃ xs x, SqL K H a xs ∧ xs[i]? = some x, fun i H x H' => H' = H ∧ ∀ xs, SqL K H a xs → xs[i]? = some x, fun i H => ∃ xs, SqL K H a xs ∧ xs.length ≤ i⟩
noncomputable def Itr (lo : Int) (n : Nat) : It := ⟨fun i _ => i < n, fun i H x H' => H' = H ∧ x = .int (lo + i), fun i _ => n ≤ i⟩
theorem turn_list {P : Program} {w : World} {K : PySem.W.Frag} {tg : Expr} (a it : Addr) : Turn P w K tg (Itl K a) [it] it (fun i h => h.IsListIter it a i) where
  mem := by simp
  obj := fun i h st b hb => by
    have e : b = it := by simpa using hb
    subst e
    obtain ⟨o, e, c, d⟩ := st
    exact ⟨o, e, fun v z => by rw [d] at z; cases z⟩
  keep := fun i h h' st k => st.at fun o e => k it (by simp) o e
  item := by
    intro X hP hw hK hc i pins s σ H E I hf st hg
    subst hP hw hK
    obtain ⟨xs, x, hq, hx⟩ := hg
    obtain ⟨its, rv, p, hz⟩ := I.list hq
    obtain ⟨u, hu, ru⟩ := rv.get hx
    obtain ⟨f0, f1, f2, f3, f4, f5⟩ := hf it (by simp)
    refine wpAny_pyNext_list_item st p.isList (x := u) (by simpa using hu) fun h' st' sb => ?_
    have I1 : Inv X pins σ H { s with heap := h' } := I.turned (t' := s.toks) (fun b o hb e => (sb.2 b hb).trans e) f0 f1 f3 f4 f5
    obtain ⟨o, e, c, d⟩ := id st'
    exact ⟨u, rfl, go_of (s := { s with heap := h' }) e c d (by decide) ⟨x, H, I1, ru, ⟨rfl, fun ys hy => by rw [I.list_inj hy hq]; exact hx⟩, st', fun b hb => (hf b hb).1⟩⟩
  done := by
    intro X hP hw hK hc i pins s σ H E I hf st hg
    subst hP hw hK
    obtain ⟨xs, hq, hx⟩ := hg
    obtain ⟨its, rv, p, hz⟩ := I.list hq
    obtain ⟨f0, f1, f2, f3, f4, f5⟩ := hf it (by simp)
    have hl := rv.length
    exact wpAny_pyNext_list_end (I.ok.hd hc) st p.isList (by simp; lia) fun h' eb => ⟨rfl, I.turned (t' := s.toks) (fun b o hb e => eb b o hb e) f0 f1 f3 f4 f5⟩
  self := fun _ _ _ _ _ st h => wpAny_pyIter_listiter st h
theorem turn_range {P : Program} {w : World} {K : PySem.W.Frag} {tg : Expr} (it : Addr) (lo : Int) (n : Nat) : Turn P w K tg (Itr lo n) [it] it (fun i h => IsRangeIter h it (lo + (i : Nat) * 1) ((n : Int) - (i : Nat)) 1) where
  mem := by simp
  obj := fun i h st b hb => by
    have e : b = it := by simpa using hb
    subst e
    exact ⟨_, st, fun v z => by
      have z' : Data.fields _ = Data.cell v := z
      cases z'⟩
  keep := fun i h h' st k => k it (by simp) _ st
  item := by
    intro X hP hw hK hc i pins s σ H E I hf st hg
    subst hP hw hK
    obtain ⟨f0, f1, f2, f3, f4, f5⟩ := hf it (by simp)
    have W := Walks.range (prog := X.prog) (w := X.w) (I.ok.hd hc) it lo 1 n
    refine W.item i s _ _ hg st fun v h' tk hv st' kk => ?_
    obtain ⟨t, rfl⟩ := hv
    have I1 : Inv X pins σ H { s with heap := h', toks := tk } := I.turned (fun b o hb e => kk b o (by simpa using hb) e) f0 f1 f3 f4 f5
    refine ⟨_, rfl, go_of (s := { s with heap := h', toks := tk }) (n := "range_iterator") st' rfl rfl (by decide) ⟨.int (lo + i), H, I1, ⟨t, ?_⟩, ⟨rfl, rfl⟩, st', fun b hb => (hf b hb).1⟩⟩
    rw [Int.mul_one]
  done := by
    intro X hP hw hK hc i pins s σ H E I hf st hg
    subst hP hw hK
    obtain ⟨f0, f1, f2, f3, f4, f5⟩ := hf it (by simp)
    exact wpAny_pyNext_range_end (I.ok.hd hc) st (by have : n ≤ i := hg; lia) fun h' eb => ⟨rfl, I.turned (t' := s.toks) (fun b o hb e => eb b o hb e) f0 f1 f3 f4 f5⟩
  self := fun _ _ _ _ _ st h => wpAny_pyIter_rangeiter st h
end L2

namespace L2
open PySem PySem.Spec PyProof.Rows
section
variable {X : Cx} {tg : Expr}
noncomputable def iList (K : PySem.W.Frag) (tl : TE) : TI := fun σ H R => tl σ H fun x H1 => ∃ a, x = .ref a ∧ (∃ xs, SqL K H1 a xs) ∧ R (Itl K a) H1
theorem pi_list {l : Expr} {tl : TE} (hl : PE X l tl) : PI X tg l (iList X.K tl) := by
  intro pins s σ H R I h
  refine thn (hl pins s σ H _ I h) fun v s1 z_ => ?_
  obtain ⟨x, H1, I1, r1, q1⟩ := z_
  obtain ⟨a, e, ⟨xs, hq⟩, q⟩ := q1
  subst e
  cases r1
  obtain ⟨its, rv, p, hz⟩ := I1.list hq
  refine wpAny_pyIter_list p.isList ?_
  refine ⟨s1.heap.objs.size, [s1.heap.objs.size], _, _, H1, rfl, I1.kept (t' := s1.toks) fun b o e => Heap.get?_push_of_some _ e, turn_list a _, ⟨_, Heap.get?_push_size _ rfl, rfl, rfl⟩, fun b hb => ?_, q⟩
  have e : b = s1.heap.objs.size := by simpa using hb
  subst e
  exact I1.fpOk (Nat.le_refl _) (I1.hok.fresh (Nat.le_refl _))
theorem range_it {pins : List (Addr × Obj)} {σ : St} {H : Hp} {s : Shared} {R : It → Hp → Prop} {E : Value → Shared → Prop} {lo hi : Int} {t u v : Tok} {tk : Nat} (I : Inv X pins σ H s) (h1 : -(2 ^ 62) ≤ lo) (h2 : lo < 2 ^ 62) (h3 : -(2 ^ 62) ≤ hi) (h4 : hi < 2 ^ 62)
    (q : R (Itr lo (hi - lo).toNat) H) : wpAny (model X.prog X.w) X.A (pyIter (.ref s.heap.objs.size)) (PIE X pins σ tg R) E { s with heap := s.heap.push { cls := .type "range", data := .fields #[.int lo t, .int hi u, .int 1 v] }, toks := tk } := by
  refine wpAny_pyIter_range (IsRange.new ..) (small_one h1 h2 h3 h4) ?_
  have I1 : Inv X pins σ H { s with heap := s.heap.push { cls := .type "range", data := .fields #[.int lo t, .int hi u, .int 1 v] }, toks := tk } := I.kept fun b o e => Heap.get?_push_of_some _ e
  refine ⟨(s.heap.push { cls := .type "range", data := .fields #[.int lo t, .int hi u, .int 1 v] }).objs.size, [(s.heap.push { cls := .type "range", data := .fields #[.int lo t, .int hi u, .int 1 v] }).objs.size], _, _, H, rfl,
    I1.kept (t' := tk) fun b o e => Heap.get?_push_of_some _ e, turn_range _ lo (hi - lo).toNat, ?_, fun b hb => ?_, q⟩
  · have e1 : lo + ((0 : Nat) : Int) * 1 = lo := by simp
    have e2 : (((hi - lo).toNat : Nat) : Int) - ((0 : Nat) : Int) = Builtin.Range.rangeSize lo hi 1 := by rw [rangeSize_one]; split <;> lia
    show IsRangeIter _ _ (lo + ((0 : Nat) : Int) * 1) ((((hi - lo).toNat : Nat) : Int) - ((0 : Nat) : Int)) 1
    rw [e1, e2]
    exact Heap.get?_push_size _ rfl
  · have e : b = (s.heap.push { cls := .type "range", data := .fields #[.int lo t, .int hi u, .int 1 v] }).objs.size := by simpa using hb
    subst e
    exact I1.fpOk (Nat.le_refl _) (I1.hok.fresh (Nat.le_refl _))
inductive Rng1P (vs : List V) (H1 : Hp) (R : It → Hp → Prop) : Prop
  | mk (j : Int) (h0 : vs = [.int j]) (h1 : -(2 ^ 62) ≤ j) (h2 : j < 2 ^ 62) (q : R (Itr 0 j.toNat) H1)
noncomputable def iRng1 (ta : TA) : TI := fun σ H R => ta σ H fun vs H1 => Rng1P vs H1 R
theorem pi_range1 {a : Expr} {ta : TA} {p pos : Pos} (hg : Gl X "range") (hm : X.mg "range" = none) (ha : PA X [a] ta) (hs : starEach [a] X.env = [(false, eval a X.env)] := by rfl) : PI X tg (.Call (.Name "range" p) [a] [] pos) (iRng1 ta) := by
  intro pins s σ H R I h
  refine Call_ (ld_blt I hg hm boot_range (PyProof.Rows.callWith_type1 (thn (ha pos pins s σ H _ I h) fun us s1 ⟨vs, H1, I1, r1, q1⟩ => ?_) hs rfl))
  obtain ⟨j, e, q1, q2, q⟩ := q1
  subst e
  cases r1 with
  | cons r rr =>
    cases rr
    obtain ⟨t, rfl⟩ := r
    exact call_range_1 (range_it I1 (by lia) (by lia) q1 q2 (by simpa using q))

noncomputable def tFor (wi : TI) (g : TG) (tb : TS) : TS := fun D σ H => wi σ H fun J H1 => ∃ W : Nat → Nat → St → Hp → Prop, (∃ m, W 0 m σ H1) ∧ ∀ i m σ H, W i m σ H →
  (J.stop i H ∧ D.nx σ H) ∨ (J.go i H ∧ ∃ N : St → Hp → Prop, (∀ σ' H', N σ' H' → ∃ m', m' < m ∧ W (i + 1) m' σ' H') ∧ ∀ x H', J.yld i H x H' → g x σ H' fun σ2 H2 => tb (D.lp N) σ2 H2)
noncomputable def pinsAt (fp : List Addr) (h : Heap) : List (Addr × Obj) := fp.filterMap fun b => (h.get? b).map fun o => (b, o)
theorem mem_pinsAt {fp : List Addr} {h : Heap} {b : Addr} {o : Obj} (hb : b ∈ fp) (e : h.get? b = some o) : (b, o) ∈ pinsAt fp h := List.mem_filterMap.mpr ⟨b, hb, by rw [e]; rfl⟩
theorem of_pinsAt {fp : List Addr} {h : Heap} {p : Addr × Obj} (hp : p ∈ pinsAt fp h) : p.1 ∈ fp ∧ h.get? p.1 = some p.2 := by
  obtain ⟨b, hb, e⟩ := List.mem_filterMap.mp hp
  cases q : h.get? b with
  | none => rw [q] at e; cases e
  | some o =>
    rw [q] at e
    have e' : (b, o) = p := Option.some.inj e
    subst e'
    exact ⟨hb, q⟩
theorem Inv.pinned {pins : List (Addr × Obj)} {σ : St} {H : Hp} {s : Shared} {fp : List Addr} (I : Inv X pins σ H s) (hf : ∀ b ∈ fp, FpOk X pins H b) (ho : ∀ b ∈ fp, ∃ o, s.heap.get? b = some o ∧ ∀ v, o.data ≠ .cell v) : Inv X (pins ++ pinsAt fp s.heap) σ H s :=
  I.pins_of fun p hp => (List.mem_append.mp hp).elim (fun z => I.pin p (List.mem_append_right _ z)) fun z => by
    obtain ⟨hb, e⟩ := of_pinsAt z
    obtain ⟨f0, f1, f2, _⟩ := hf p.1 hb
    obtain ⟨o, e', d⟩ := ho p.1 hb
    rw [e] at e'; cases e'
    exact ⟨e, f0, f1, f2, d⟩
theorem Inv.unpinned {pins pl : List (Addr × Obj)} {σ : St} {H : Hp} {s : Shared} (I : Inv X (pins ++ pl) σ H s) : Inv X pins σ H s := I.pins_of fun p hp => I.pin p (List.mem_append_right _ (List.mem_append_left _ hp))
theorem ps_for {iter : Expr} {body : List Stmt} {wi : TI} {g : TG} {tb : TS} {pos : Pos} (hp : PassesOwn (model X.prog X.w) X.A X.env X.xe) (hc : X.calm = true) (hi : PI X tg iter wi) (hg : PG X tg g) (hb : PSs X body tb)
    (hs : ∀ x, foldedSetIterable iter X.env x = pure x := by intro _; rfl) : PS X (.For tg iter body [] pos) (tFor wi g tb) := by
  intro pins s σ H D I h
  refine wpAny_For (thn (hi pins s σ H _ I h) fun v s1 h1 => thn h1 fun itv s2 h2 => ?_) hs
  obtain ⟨it, fp, tn, J, H2, e, I2, T, st2, f2, W, ⟨m0, w0⟩, turn⟩ := h2
  subst e
  -- what stays true of the iterator's objects through the loop
  have stat : ∀ {H' : Hp}, (∀ b ∈ fp, H' b = none) → ∀ b ∈ fp, FpOk X pins H' b := fun hn b hb => ⟨hn b hb, (f2 b hb).2⟩
  refine codeAny_forLoop_any (fun n s' => ∃ i σ' H', Inv X pins σ' H' s' ∧ tn i s'.heap ∧ (∀ b ∈ fp, H' b = none) ∧ W i n σ' H') ?_ m0 ⟨0, σ, H2, I2, st2, fun b hb => (f2 b hb).1, w0⟩
  rintro n s3 ⟨i, σ3, H3, I3, st3, fr3, w3⟩
  rcases turn i n σ3 H3 w3 with ⟨stop, qn⟩ | ⟨go, N, hN, step⟩
  · refine wpAny_passesOwn hp (thn (T.done X rfl rfl rfl hc i pins s3 σ3 H3 X.xe I3 (stat fr3) st3 stop) fun r s4 z_ => ?_)
    obtain ⟨hr, I4⟩ := z_
    subst hr
    exact wpAny_execs_nil ⟨σ3, H3, I4, qn⟩
  · refine wpAny_passesOwn hp (thn (T.item X rfl rfl rfl hc i pins s3 σ3 H3 X.xe I3 (stat fr3) st3 go) fun r s4 z_ => ?_)
    obtain ⟨u, hr, h4⟩ := z_
    subst hr
    refine wpAny_passesOwn hp (thn h4 fun _ s5 z_ => ?_)
    obtain ⟨x, H5, I5, r5, y5, st5, fr5⟩ := z_
    have I5' := I5.pinned (stat fr5) (T.obj _ _ st5)
    refine wpAny_passesOwn hp (thn (hg _ s5 σ3 H5 x u _ I5' r5 (step x H5 y5)) fun _ s6 z_ => ?_)
    obtain ⟨σ6, H6, I6, q6⟩ := z_
    refine wpAny_passesOwn hp (thn (hb _ s6 σ6 H6 _ I6 q6) fun f s7 q7 => ?_)
    have again : ∀ {σ7 : St} {H7 : Hp}, Inv X (pins ++ pinsAt fp s5.heap) σ7 H7 s7 → N σ7 H7 → ∃ m, m < n ∧ ∃ i σ' H', Inv X pins σ' H' s7 ∧ tn i s7.heap ∧ (∀ b ∈ fp, H' b = none) ∧ W i m σ' H' := fun {σ7 H7} I7 n7 => by
      obtain ⟨m', hm, w7⟩ := hN σ7 H7 n7
      refine ⟨m', hm, i + 1, σ7, H7, I7.unpinned, T.keep _ _ _ st5 fun b hb o e => (I7.pin (b, o) (List.mem_append_right _ (List.mem_append_right _ (mem_pinsAt hb e)))).1, fun b hb => ?_, w7⟩
      obtain ⟨o, e, d⟩ := T.obj _ _ st5 b hb
      exact (I7.pin (b, o) (List.mem_append_right _ (List.mem_append_right _ (mem_pinsAt hb e)))).2.1
    cases f with
    | next => obtain ⟨σ7, H7, I7, n7⟩ := q7; exact again I7 n7
    | cont => obtain ⟨σ7, H7, I7, n7⟩ := q7; exact again I7 n7
    | brk => obtain ⟨σ7, H7, I7, q7⟩ := q7; exact ⟨σ7, H7, I7.unpinned, q7⟩
    | ret v => obtain ⟨x7, σ7, H7, I7, r7, q7⟩ := q7; exact ⟨x7, σ7, H7, I7.unpinned, r7, q7⟩
end

theorem for_list {K : PySem.W.Frag} {a : Addr} {xs : List V} {g : TG} {tb : TS} {D : Ends} {σ : St} {H : Hp} (Pv : Nat → St → Hp → Prop) (h0 : Pv 0 σ H) (hl : ∀ i σ H, i ≤ xs.length → Pv i σ H → SqL K H a xs)
    (hs : ∀ i x σ H, xs[i]? = some x → Pv i σ H → g x σ H fun σ2 H2 => tb (D.lp (Pv (i + 1))) σ2 H2) (hd : ∀ σ H, Pv xs.length σ H → D.nx σ H) :
    ∃ W : Nat → Nat → St → Hp → Prop, (∃ m, W 0 m σ H) ∧ ∀ i m σ H, W i m σ H →
      ((Itl K a).stop i H ∧ D.nx σ H) ∨ ((Itl K a).go i H ∧ ∃ N : St → Hp → Prop, (∀ σ' H', N σ' H' → ∃ m', m' < m ∧ W (i + 1) m' σ' H') ∧ ∀ x H', (Itl K a).yld i H x H' → g x σ H' fun σ2 H2 => tb (D.lp N) σ2 H2) := by
  refine ⟨fun i m σ H => m = xs.length - i ∧ i ≤ xs.length ∧ Pv i σ H, ⟨xs.length, by simp, Nat.zero_le _, h0⟩, ?_⟩
  rintro i m σ H ⟨rfl, hi, p⟩
  have q := hl i σ H hi p
  by_cases hlt : i < xs.length
  · refine .inr ⟨⟨xs, xs[i], q, by simp [hlt]⟩, Pv (i + 1), fun σ' H' p' => ⟨xs.length - (i + 1), by lia, rfl, hlt, p'⟩, fun x H' y => ?_⟩
    obtain ⟨e, y⟩ := y
    subst e
    exact hs i x σ _ (y xs q) p
  · have e : i = xs.length := by lia
    subst e
    exact .inl ⟨⟨xs, q, Nat.le_refl _⟩, hd σ H p⟩
theorem for_range {lo : Int} {n : Nat} {g : TG} {tb : TS} {D : Ends} {σ : St} {H : Hp} (Pv : Nat → St → Hp → Prop) (h0 : Pv 0 σ H)
    (hs : ∀ i σ H, i < n → Pv i σ H → g (.int (lo + i)) σ H fun σ2 H2 => tb (D.lp (Pv (i + 1))) σ2 H2) (hd : ∀ σ H, Pv n σ H → D.nx σ H) :
    ∃ W : Nat → Nat → St → Hp → Prop, (∃ m, W 0 m σ H) ∧ ∀ i m σ H, W i m σ H →
      ((Itr lo n).stop i H ∧ D.nx σ H) ∨ ((Itr lo n).go i H ∧ ∃ N : St → Hp → Prop, (∀ σ' H', N σ' H' → ∃ m', m' < m ∧ W (i + 1) m' σ' H') ∧ ∀ x H', (Itr lo n).yld i H x H' → g x σ H' fun σ2 H2 => tb (D.lp N) σ2 H2) := by
  refine ⟨fun i m σ H => m = n - i ∧ i ≤ n ∧ Pv i σ H, ⟨n, by simp, Nat.zero_le _, h0⟩, ?_⟩
  rintro i m σ H ⟨rfl, hi, p⟩
  by_cases hlt : i < n
  · refine .inr ⟨hlt, Pv (i + 1), fun σ' H' p' => ⟨n - (i + 1), by lia, rfl, hlt, p'⟩, fun x H' y => ?_⟩
    obtain ⟨e, y⟩ := y
    subst e y
    exact hs i σ _ hlt p
  · have e : i = n := by lia
    subst e
    exact .inl ⟨Nat.le_refl _, hd σ H p⟩
end L2

namespace L2
open PySem PySem.Spec PyProof.Rows

noncomputable abbrev R2 := V → V → Hp → VK → Prop
noncomputable def OpR (X : Cx) (f : Value → Value → Sem Value) (r : R2) : Prop :=
  ∀ (pins : List (Addr × Obj)) (s : Shared) (σ : St) (H : Hp) (x y : V) (v u : Value) (Q : VK), Inv X pins σ H s → RelV x v → RelV y u → r x y H Q →
    wpAny (model X.prog X.w) X.A (f v u) (EP X pins σ Q) X.xe s
noncomputable def UnR (X : Cx) (f : Value → Sem Value) (r : V → Hp → VK → Prop) : Prop :=
  ∀ (pins : List (Addr × Obj)) (s : Shared) (σ : St) (H : Hp) (x : V) (v : Value) (Q : VK), Inv X pins σ H s → RelV x v → r x H Q →
    wpAny (model X.prog X.w) X.A (f v) (EP X pins σ Q) X.xe s
noncomputable def CallR (X : Cx) (f : Value) (r : List V → Hp → VK → Prop) : Prop :=
  ∀ (pins : List (Addr × Obj)) (s : Shared) (σ : St) (H : Hp) (xs : List V) (us : List Value) (Q : VK), Inv X pins σ H s → Vals xs us → r xs H Q →
    wpAny (model X.prog X.w) X.A (call f us) (EP X pins σ Q) X.xe s

noncomputable def tOp (r : R2) (ta tb : TE) : TE := fun σ H Q => ta σ H fun x H1 => tb σ H1 fun y H2 => r x y H2 Q
noncomputable def tUn (r : V → Hp → VK → Prop) (ta : TE) : TE := fun σ H Q => ta σ H fun x H1 => r x H1 Q
inductive rIP (C : Int → Int → Prop) (g : Int → Int → V) (x : V) (y : V) (H : Hp) (Q : VK) : Prop
  | mk (i : _) (j : _) (h_0 : x = .int i) (h_1 : y = .int j) (h_2 : C i j) (h_3 : Q (g i j) H)
noncomputable def rI (C : Int → Int → Prop) (g : Int → Int → V) : R2 := fun x y H Q => rIP C g x y H Q
inductive rI0P (g : Int → Int → V) (x : V) (y : V) (H : Hp) (Q : VK) : Prop
  | mk (i : _) (j : _) (h_0 : x = .int i) (h_1 : y = .int j) (h_2 : Q (g i j) H)
noncomputable def rI0 (g : Int → Int → V) : R2 := fun x y H Q => rI0P g x y H Q
inductive rUP (g : Int → V) (x : V) (H : Hp) (Q : VK) : Prop
  | mk (i : _) (h_0 : x = .int i) (h_1 : Q (g i) H)
noncomputable def rU (g : Int → V) : V → Hp → VK → Prop := fun x H Q => rUP g x H Q
section
variable {X : Cx} {a b c : Expr} {ta tb tc : TE} {pos : Pos}

theorem binT (ha : PE X a ta) (hb : PE X b tb) {pins : List (Addr × Obj)} {s : Shared} {σ : St} {H : Hp} {R : V → V → Hp → Prop} (I : Inv X pins σ H s)
    (h : ta σ H fun x H1 => tb σ H1 fun y H2 => R x y H2) {Q : Value → Shared → Prop} {f : Value → Value → Sem Value}
    (hf : ∀ v u s2 x y H2, Inv X pins σ H2 s2 → RelV x v → RelV y u → R x y H2 → wpAny (model X.prog X.w) X.A (f v u) Q X.xe s2) :
    wpAny (model X.prog X.w) X.A (eval a X.env) (fun v s₁ => wpAny (model X.prog X.w) X.A (eval b X.env) (fun u s₂ => wpAny (model X.prog X.w) X.A (f v u) Q X.xe s₂) X.xe s₁) X.xe s := by
  refine thn (ha pins s σ H _ I h) fun v s1 z_ => ?_
  obtain ⟨x, H1, I1, r1, q1⟩ := z_
  refine thn (hb pins s1 σ H1 _ I1 q1) fun u s2 z_ => ?_
  obtain ⟨y, H2, I2, r2, q2⟩ := z_
  exact hf v u s2 x y H2 I2 r1 r2 q2

theorem pe_op {op : Operator} {r : R2} (ho : OpR X (binaryOp op) r) (ha : PE X a ta) (hb : PE X b tb) : PE X (.BinOp a op b pos) (tOp r ta tb) := by
  intro pins s σ H Q I h
  exact wpAny_BinOp (binT ha hb I h fun v u s2 x y H2 I2 rx ry q => ho pins s2 σ H2 x y v u Q I2 rx ry q)
theorem pe_un {op : UnaryOp} {r : V → Hp → VK → Prop} (ho : UnR X (unaryOp op) r) (ha : PE X a ta) : PE X (.UnaryOp op a pos) (tUn r ta) := by
  intro pins s σ H Q I h
  exact UnaryOp_ (thn (ha pins s σ H _ I h) fun v s1 ⟨x, H1, I1, r1, q1⟩ => ho pins s1 σ H1 x v Q I1 r1 q1)

theorem opI {f : Value → Value → Sem Value} {C : Int → Int → Prop} {g : Int → Int → Int}
    (rule : ∀ (i j : Int) (t u : Tok) (s : Shared) (Q : Value → Shared → Prop) (E : Value → Shared → Prop), C i j → Q (.int (g i j) s.toks) { s with toks := s.toks + 1 } → wpAny (model X.prog X.w) X.A (f (.int i t) (.int j u)) Q E s) :
    OpR X f (rI C fun i j => .int (g i j)) := by
  intro pins s σ H x y v u Q I rx ry h
  obtain ⟨i, j, rfl, rfl, hc, q⟩ := h
  obtain ⟨t, rfl⟩ := rx
  obtain ⟨t', rfl⟩ := ry
  exact rule i j t t' s _ _ hc ⟨.int (g i j), H, I.tok _, ⟨_, rfl⟩, q⟩
theorem opI0 {f : Value → Value → Sem Value} {g : Int → Int → Int}
    (rule : ∀ (i j : Int) (t u : Tok) (s : Shared) (Q : Value → Shared → Prop) (E : Value → Shared → Prop), Q (.int (g i j) s.toks) { s with toks := s.toks + 1 } → wpAny (model X.prog X.w) X.A (f (.int i t) (.int j u)) Q E s) :
    OpR X f (rI0 fun i j => .int (g i j)) := by
  intro pins s σ H x y v u Q I rx ry h
  obtain ⟨i, j, rfl, rfl, q⟩ := h
  obtain ⟨t, rfl⟩ := rx
  obtain ⟨t', rfl⟩ := ry
  exact rule i j t t' s _ _ ⟨.int (g i j), H, I.tok _, ⟨_, rfl⟩, q⟩
theorem opB0 {f : Value → Value → Sem Value} {g : Int → Int → Bool}
    (rule : ∀ (i j : Int) (t u : Tok) (s : Shared) (Q : Value → Shared → Prop) (E : Value → Shared → Prop), Q (.bool (g i j)) s → wpAny (model X.prog X.w) X.A (f (.int i t) (.int j u)) Q E s) :
    OpR X f (rI0 fun i j => .bl (g i j)) := by
  intro pins s σ H x y v u Q I rx ry h
  obtain ⟨i, j, rfl, rfl, q⟩ := h
  obtain ⟨t, rfl⟩ := rx
  obtain ⟨t', rfl⟩ := ry
  exact rule i j t t' s _ _ ⟨.bl (g i j), H, I, rfl, q⟩

noncomputable def CDiv (i j : Int) : Prop := 0 < j ∧ j < 1073741824
noncomputable def CMul (i j : Int) : Prop := (-(2 ^ 64) < i ∧ i < 2 ^ 64) ∨ (-(2 ^ 64) < j ∧ j < 2 ^ 64)
theorem CMul.ok {i j : Int} (h : CMul i j) : IntMulOk i j := by
  rcases h with ⟨h1, h2⟩ | ⟨h1, h2⟩
  · exact .of_left (intBits_le_64 h1 h2)
  · exact .of_right (intBits_le_64 h1 h2)

theorem op_add : OpR X (binaryOp .Add) (rI0 fun i j => .int (i + j)) := opI0 fun _ _ _ _ _ _ _ q => add_int q
theorem op_sub : OpR X (binaryOp .Sub) (rI0 fun i j => .int (i - j)) := opI0 fun _ _ _ _ _ _ _ q => sub_int q
theorem op_mul : OpR X (binaryOp .Mult) (rI CMul fun i j => .int (i * j)) := opI fun _ _ _ _ _ _ _ hc q => mul_int q hc.ok
theorem op_fdiv : OpR X (binaryOp .FloorDiv) (rI CDiv fun i j => .int (i / j)) := opI fun i j _ _ _ _ _ hc q => by
  have h1 : (0 : Int) < j := hc.1
  have h2 : j < 1073741824 := hc.2
  exact floordiv_int (by lia) (by rw [Int.fdiv_eq_ediv_of_nonneg i (by lia)]; exact q) (.inl (PyProof.noPylong_small (by lia)))
theorem op_mod : OpR X (binaryOp .Mod) (rI (fun _ j => 0 < j) fun i j => .int (i % j)) := opI fun i j _ _ _ _ _ hc q => by
  have h1 : (0 : Int) < j := hc
  exact mod_int' (by lia) (by rw [Int.fmod_eq_emod_of_nonneg i (by lia)]; exact q)


theorem unI {f : Value → Sem Value} {g : Int → Int}
    (rule : ∀ (i : Int) (t : Tok) (s : Shared) (Q : Value → Shared → Prop) (E : Value → Shared → Prop), Q (.int (g i) s.toks) { s with toks := s.toks + 1 } → wpAny (model X.prog X.w) X.A (f (.int i t)) Q E s) :
    UnR X f (rU fun i => .int (g i)) := by
  intro pins s σ H x v Q I rx h
  obtain ⟨i, rfl, q⟩ := h
  obtain ⟨t, rfl⟩ := rx
  exact rule i t s _ _ ⟨.int (g i), H, I.tok _, ⟨_, rfl⟩, q⟩
theorem un_neg : UnR X (unaryOp .USub) (rU fun i => .int (-i)) := unI fun _ _ _ _ _ q => neg_int q

end

noncomputable def scal : V → V → Bool
  | .non, .non => true | .non, .int _ => true | .int _, .non => true | .non, .bl _ => true | .bl _, .non => true | .non, .str _ => true | .str _, .non => true
  | .int _, .int _ => true | .bl _, .bl _ => true | .str _, .str _ => true | .byt _, .byt _ => true
  | .int _, .str _ => true | .str _, .int _ => true | .bl _, .str _ => true | .str _, .bl _ => true
  | _, _ => false
noncomputable def rEq : R2 := fun x y H Q => scal x y = true ∧ Q (.bl (decide (x = y))) H
noncomputable def rNe : R2 := fun x y H Q => scal x y = true ∧ Q (.bl (!decide (x = y))) H

theorem dec_int {i j : Int} : decide (V.int i = V.int j) = (i == j) := by
  rw [Bool.eq_iff_iff]
  simp
theorem dec_bl {i j : Bool} : decide (V.bl i = V.bl j) = (i == j) := by
  rw [Bool.eq_iff_iff]
  simp
theorem dec_str {i j : Str} : decide (V.str i = V.str j) = (i == j) := by
  rw [Bool.eq_iff_iff]
  simp
theorem dec_byt {i j : Array UInt8} : decide (V.byt i = V.byt j) = (i.toList == j.toList) := by
  rw [Bool.eq_iff_iff]
  cases i
  cases j
  simp

section
variable {X : Cx} {a b c : Expr} {ta tb tc : TE} {pos : Pos}
theorem fin_bl {pins : List (Addr × Obj)} {σ : St} {H : Hp} {s : Shared} {Q : VK} {k k' : Bool} (I : Inv X pins σ H s) (q : Q (.bl k) H) (e : k = k') : EP X pins σ Q (.bool k') s := by
  subst e
  exact ⟨.bl k, H, I, rfl, q⟩
theorem op_eq : OpR X (compareOp .Eq) rEq := by
  intro pins s σ H x y v u Q I rx ry h
  obtain ⟨hs, q⟩ := h
  cases x with
  | non =>
    cases rx
    cases y with
    | non => cases ry; exact PySem.EqNone.eq_none_none (fin_bl I q (by simp))
    | bl j => cases ry; exact PySem.EqNone.eq_none_bool (fin_bl I q (by simp))
    | int j => obtain ⟨t', rfl⟩ := ry; exact PySem.EqNone.eq_none_int (fin_bl I q (by simp))
    | str j => obtain ⟨t', rfl⟩ := ry; exact PySem.EqNone.eq_none_str (fin_bl I q (by simp))
    | _ => exact absurd (show false = true from hs) Bool.false_ne_true
  | bl i =>
    cases rx
    cases y with
    | non => cases ry; exact PySem.EqNone.eq_bool_none (fin_bl I q (by simp))
    | bl j => cases ry; exact eq_bool (fin_bl I q dec_bl)
    | str j => obtain ⟨t', rfl⟩ := ry; exact PySem.EqMixed.eq_bool_str (fin_bl I q (by simp))
    | _ => exact absurd (show false = true from hs) Bool.false_ne_true
  | int i =>
    obtain ⟨t, rfl⟩ := rx
    cases y with
    | non => cases ry; exact PySem.EqNone.eq_int_none (fin_bl I q (by simp))
    | int j => obtain ⟨t', rfl⟩ := ry; exact eq_int (fin_bl I q dec_int)
    | str j => obtain ⟨t', rfl⟩ := ry; exact PySem.EqMixed.eq_int_str (fin_bl I q (by simp))
    | _ => exact absurd (show false = true from hs) Bool.false_ne_true
  | str i =>
    obtain ⟨t, rfl⟩ := rx
    cases y with
    | non => cases ry; exact PySem.EqNone.eq_str_none (fin_bl I q (by simp))
    | bl j => cases ry; exact PySem.EqMixed.eq_str_bool (fin_bl I q (by simp))
    | int j => obtain ⟨t', rfl⟩ := ry; exact PySem.EqMixed.eq_str_int (fin_bl I q (by simp))
    | str j => obtain ⟨t', rfl⟩ := ry; exact eq_str (fin_bl I q dec_str)
    | _ => exact absurd (show false = true from hs) Bool.false_ne_true
  | byt i =>
    obtain ⟨t, rfl⟩ := rx
    cases y with
    | byt j => obtain ⟨t', rfl⟩ := ry; exact PySem.W.eq_bytes (fin_bl I q dec_byt)
    | _ => exact absurd (show false = true from hs) Bool.false_ne_true
  | _ => cases y <;> exact absurd (show false = true from hs) Bool.false_ne_true
theorem op_ne : OpR X (compareOp .NotEq) rNe := by
  intro pins s σ H x y v u Q I rx ry h
  obtain ⟨hs, q⟩ := h
  cases x with
  | non =>
    cases rx
    cases y with
    | non => cases ry; exact PySem.EqNone.ne_none_none (fin_bl I q (by simp))
    | bl j => cases ry; exact PySem.EqNone.ne_none_bool (fin_bl I q (by simp))
    | int j => obtain ⟨t', rfl⟩ := ry; exact PySem.EqNone.ne_none_int (fin_bl I q (by simp))
    | str j => obtain ⟨t', rfl⟩ := ry; exact PySem.EqNone.ne_none_str (fin_bl I q (by simp))
    | _ => exact absurd (show false = true from hs) Bool.false_ne_true
  | bl i =>
    cases rx
    cases y with
    | non => cases ry; exact PySem.EqNone.ne_bool_none (fin_bl I q (by simp))
    | bl j => cases ry; exact ne_bool (fin_bl I q (congrArg not dec_bl))
    | str j => obtain ⟨t', rfl⟩ := ry; exact PySem.EqMixed.ne_bool_str (fin_bl I q (by simp))
    | _ => exact absurd (show false = true from hs) Bool.false_ne_true
  | int i =>
    obtain ⟨t, rfl⟩ := rx
    cases y with
    | non => cases ry; exact PySem.EqNone.ne_int_none (fin_bl I q (by simp))
    | int j => obtain ⟨t', rfl⟩ := ry; exact ne_int (fin_bl I q (congrArg not dec_int))
    | str j => obtain ⟨t', rfl⟩ := ry; exact PySem.EqMixed.ne_int_str (fin_bl I q (by simp))
    | _ => exact absurd (show false = true from hs) Bool.false_ne_true
  | str i =>
    obtain ⟨t, rfl⟩ := rx
    cases y with
    | non => cases ry; exact PySem.EqNone.ne_str_none (fin_bl I q (by simp))
    | bl j => cases ry; exact PySem.EqMixed.ne_str_bool (fin_bl I q (by simp))
    | int j => obtain ⟨t', rfl⟩ := ry; exact PySem.EqMixed.ne_str_int (fin_bl I q (by simp))
    | str j => obtain ⟨t', rfl⟩ := ry; exact ne_str (fin_bl I q (congrArg not dec_str))
    | _ => exact absurd (show false = true from hs) Bool.false_ne_true
  | byt i =>
    obtain ⟨t, rfl⟩ := rx
    cases y with
    | byt j => obtain ⟨t', rfl⟩ := ry; exact PySem.W.ne_bytes (fin_bl I q (congrArg not dec_byt))
    | _ => exact absurd (show false = true from hs) Bool.false_ne_true
  | _ => cases y <;> exact absurd (show false = true from hs) Bool.false_ne_true

theorem op_lt : OpR X (compareOp .Lt) (rI0 fun i j => .bl (decide (i < j))) := opB0 fun _ _ _ _ _ _ _ q => lt_int q
theorem op_gt : OpR X (compareOp .Gt) (rI0 fun i j => .bl (decide (j < i))) := opB0 fun _ _ _ _ _ _ _ q => gt_int q
theorem op_in_str : OpR X (compareOp .In) (fun x y H Q => ∃ i j, x = .str i ∧ y = .str j ∧ Q (.bl (!(Builtin.Str.occurrences j i 0 j.length 1).isEmpty)) H) := by
  intro pins s σ H x y v u Q I rx ry h
  obtain ⟨i, j, rfl, rfl, q⟩ := h
  obtain ⟨t, rfl⟩ := rx
  obtain ⟨t', rfl⟩ := ry
  exact in_str (fin_bl I q rfl)

theorem op_notN : OpR X (compareOp .IsNot) (fun x y H Q => y = .non ∧ Q (.bl (!decide (x = .non))) H) := by
  intro pins s σ H x y v u Q I rx ry h
  obtain ⟨rfl, q⟩ := h
  cases ry
  refine isnot_none_gen (fin_bl I q ?_)
  cases x <;> first
    | (cases rx; rfl)
    | (obtain ⟨t, rfl⟩ := rx; rfl)



theorem nomark (b : Expr) {op : CmpOp} (h : op ≠ .In := by decide) (h2 : op ≠ .NotIn := by decide) : behindInMarks op b = false := by
  have e1 : (op == CmpOp.In) = false := by cases op <;> first | rfl | exact absurd rfl h
  have e2 : (op == CmpOp.NotIn) = false := by cases op <;> first | rfl | exact absurd rfl h2
  cases b <;> simp [behindInMarks, e1, e2]
theorem pe_cmpR {op : CmpOp} {r : R2} (ho : OpR X (compareOp op) r) (ha : PE X a ta) (hb : PE X b tb) (hm : behindInMarks op b = false) : PE X (.Compare a [op] [b] pos) (tOp r ta tb) := by
  intro pins s σ H Q I h
  exact wpAny_Compare1 (binT ha hb I h fun v u s2 x y H2 I2 rx ry q => ho pins s2 σ H2 x y v u Q I2 rx ry q) hm
noncomputable def tTest (t : TE) : TT := fun σ H Q => t σ H fun x H' => BoolP x H' Q
theorem pt_cmpR {op : CmpOp} {r : R2} (ho : OpR X (compareOp op) r) (ha : PE X a ta) (hb : PE X b tb) (hm : behindInMarks op b = false) : PT X (.Compare a [op] [b] pos) (tTest (tOp r ta tb)) := by
  intro pins s σ H Q I h
  refine wpAny_isTrue_Compare1 (thn (ha pins s σ H _ I h) fun v s1 ⟨x, H1, I1, r1, q1⟩ => thn (hb pins s1 σ H1 _ I1 q1) fun u s2 ⟨y, H2, I2, r2, q2⟩ =>
    thn (ho pins s2 σ H2 x y v u _ I2 r1 r2 q2) fun c s3 ⟨z, H3, I3, r3, k, e, q3⟩ => ?_) hm
  subst e
  cases r3
  exact wpAny_truthy_bool ⟨H3, I3, q3⟩

theorem line63 : (sizeLine : Nat) < 2 ^ 63 := by rw [sizeLine_eq]; decide

theorem op_add_str : OpR X (binaryOp .Add) (fun x y H Q => ∃ i j, x = .str i ∧ y = .str j ∧ i.length + j.length ≤ sizeLine ∧ Q (.str (i ++ j)) H) := by
  intro pins s σ H x y v u Q I rx ry h
  obtain ⟨i, j, rfl, rfl, hz, q⟩ := h
  obtain ⟨t, rfl⟩ := rx
  obtain ⟨t', rfl⟩ := ry
  exact add_str (fun t' tk => ⟨.str (i ++ j), H, I.tok _, ⟨_, rfl⟩, q⟩) hz


theorem vals1 {x : V} {us : List Value} (r : Vals [x] us) : ∃ u, us = [u] ∧ RelV x u := by
  cases r with
  | cons r1 r2 => cases r2; exact ⟨_, rfl, r1⟩
theorem vals2 {x y : V} {us : List Value} (r : Vals [x, y] us) : ∃ u w', us = [u, w'] ∧ RelV x u ∧ RelV y w' := by
  cases r with
  | cons r1 r2 =>
    cases r2 with
    | cons r3 r4 => cases r4; exact ⟨_, _, rfl, r1, r3⟩
theorem call_str_int : CallR X (.type "str") (fun xs H Q => ∃ i, xs = [.int i] ∧ i.natAbs.log2 < 1920 ∧ Q (.str (toString i)) H) := by
  intro pins s σ H xs us Q I r h
  obtain ⟨i, rfl, hz, q⟩ := h
  obtain ⟨u, rfl, t, rfl⟩ := vals1 r
  exact PySem.P.str_of_int hz ⟨.str _, H, I.tok _, ⟨_, rfl⟩, q⟩
end
end L2

namespace L2
open PySem PySem.Spec PyProof.Rows

structure ObjM (h : Heap) (x dx C : Addr) (mA : Str → Option Value) : Prop where
  obj : h.get? x = some (PySem.W.instObj C dx)
  ns : h.Ns1 dx mA
  ne : dx ≠ x

theorem lookIn_ns {h : Heap} {dx : Addr} {mA : Str → Option Value} (n : h.Ns1 dx mA) : ∃ od, h.get? dx = some od ∧ ∀ name, PySem.W.lookIn name od = some (mA name) := by
  obtain ⟨o, es, ep, ho, hd, hk, _, hm⟩ := n
  refine ⟨o, ho, fun name => ?_⟩
  have e := hm name
  unfold nsFind findBy at e
  rw [← Array.find?_toList] at e
  unfold PySem.W.lookIn
  rw [hd]
  dsimp only
  split
  · rename_i y q
    rw [q] at e
    exact congrArg some e
  · rename_i q
    rw [q] at e
    have a : es.toList.any (·.refKey) = false := by
      rw [List.any_eq_false]
      intro y hy
      obtain ⟨z, t, hkey⟩ := hk y (Array.mem_toList_iff.mp hy)
      simp [DictEntry.refKey, hkey]
    have a' : ¬ es.toList.any (·.refKey) = true := by rw [a]; exact Bool.false_ne_true
    rw [if_neg a']
    exact congrArg some e

theorem ObjM.look {h : Heap} {x dx C : Addr} {mA : Str → Option Value} (I : ObjM h x dx C mA) : ∃ od, PySem.W.InstAt h x (PySem.W.instObj C dx) C (some od) ∧ ∀ name, PySem.W.lookIn name od = some (mA name) :=
  let ⟨od, ho, hl⟩ := lookIn_ns I.ns
  ⟨od, ⟨I.obj, rfl, rfl, ho⟩, hl⟩

section
variable {prog : Program} {w : World} {A : Around} {E : Value → Shared → Prop} {s : Shared} {K : PySem.W.Frag} {x dx C f : Addr} {mA : Str → Option Value} {name : Str} {v : Value}

theorem get_map {expr : Bool} {Q : Value → Shared → Prop} (X : K.In s.heap) (I : ObjM s.heap x dx C mA) (hg : PySem.W.plainGet K C name = true) (hh : PySem.W.hasDictIn K C = true)
    (ha : PySem.W.findIn K (.ref C) name = some none) (hv : mA name = some v) (hv' : PySem.W.handedIn v = true) (h : Q v { s with toks := s.toks + 1 }) :
    wpAny (model prog w) A (getAttr (.ref x) name expr) Q E s := by
  obtain ⟨od, J, hl⟩ := I.look
  exact PySem.W.get_value X J (PySem.W.plainGet_of hg).1 (PySem.W.findObj_own hh ha rfl (by rw [hl, hv])) hv' h



theorem set_map {ns : List Str} {Q : Unit → Shared → Prop} (X : K.In s.heap) (I : ObjM s.heap x dx C mA)
    (hs : PySem.W.findIn K (.ref C) "__setattr__" = some (some (.builtin "object.__setattr__"))) (hp : PySem.W.plainOver K C = true) (ht : PySem.W.takerIn K C name = some none) (hh : PySem.W.hasDictIn K C = true)
    (hw : PySem.Within mA ns) (hsz : ns.length ≤ sizeLine)
    (h : ∀ h', ObjM h' x dx C (fun y => if y = name then some v else mA y) → Heap.SameBut dx s.heap h' → Q () { s with heap := h', toks := s.toks + 2 }) :
    wpAny (model prog w) A (setAttr (.ref x) name v) Q E s := by
  obtain ⟨od, J, hl⟩ := I.look
  refine PySem.W.set_plain X J hs (PySem.W.osa_open (s := { s with toks := s.toks + 1 }) (r := none) X J hp ht fun b => ?_)
  obtain ⟨cd, hc, hd'⟩ := PySem.W.any_some hh
  have hx : s.heap.get? x = some ⟨.ref C, some dx, .plain, #[]⟩ := I.obj
  refine wpAny_bind (wpAny_pure (wpAny_bind (wpAny_bind (wpAny_loadPart hx (wpAny_bind (PySem.W.Looks.here (s := { s with toks := s.toks + 1 }) (PySem.W.looks_clsIn X hc) ?_))))))
  rw [hd']
  refine wpAny_pure (a := some dx) (wpAny_bind (wpAny_pure (wpAny_bind ?_)))
  refine wpAny_nsSet1 (s := { s with toks := s.toks + 1 }) I.ns fun h' hn2 hs2 => ?_
  obtain ⟨oD, esD, epD, hoD, hdD, hcD⟩ := hn2.count (PySem.Within.cons name v hw)
  refine wpAny_bind (wpAny_lookBehind hoD (by rw [hdD]; exact pastItsLine_dict (Nat.le_trans hcD (by rw [List.length_cons]; lia))) ?_)
  exact wpAny_pure (h _ ⟨(hs2.2 _ (Ne.symm I.ne)).trans I.obj, hn2, I.ne⟩ hs2)

theorem make_map {R : Result → Shared → Prop} {vs : List Value} {kw : List (Str × Value)} (X : K.In s.heap) (hm : PySem.W.makesIn K C = true)
    (hi : PySem.W.findIn K (.ref C) "__init__" = some (some (.ref f))) (hf : PySem.W.typeIn K (.ref f) = some (.type "function"))
    (h : codeAny (model prog w) (A.under (.builtin "type.__call__" ⟨.ref C :: vs, kw⟩)) (.call (.ref f) ⟨.ref (s.heap.objs.size + 1) :: vs, kw⟩) (PySem.W.InitBack (s.heap.objs.size + 1) R)
      { s with heap := (s.heap.push PySem.W.emptyDict).push (PySem.W.instObj C s.heap.objs.size) }) :
    codeAny (model prog w) A (.call (.ref C) ⟨vs, kw⟩) R s := by
  obtain ⟨hh, g, d, t, os⟩ := s
  exact PySem.W.make_core (PySem.W.makes_of X hm) (PySem.W.looks_findIn X hi) (fun self => PySem.W.bind_fn X self hf) (.inl rfl) h
end

noncomputable def putF (f : Str) (v : V) : List (Str × V) → List (Str × V)
  | [] => [(f, v)]
  | (g, x) :: r => if g = f then (g, v) :: r else (g, x) :: putF f v r
theorem lookup_putF (f g : Str) (v : V) : ∀ fs : List (Str × V), (putF f v fs).lookup g = if g = f then some v else fs.lookup g
  | [] => by
    show List.lookup g [(f, v)] = _
    by_cases h : g = f
    · have hb : (g == f) = true := beq_iff_eq.mpr h
      simp only [List.lookup, hb, if_pos h]
    · have hb : (g == f) = false := beq_eq_false_iff_ne.mpr h
      simp only [List.lookup, hb, if_neg h]
  | (k, x) :: r => by
    have ih := lookup_putF f g v r
    rw [show putF f v ((k, x) :: r) = (if k = f then (k, v) :: r else (k, x) :: putF f v r) from rfl]
    by_cases hk : k = f
    · rw [if_pos hk]
      by_cases h : g = k
      · have hb : (g == k) = true := beq_iff_eq.mpr h
        simp only [List.lookup, hb, if_pos (h.trans hk)]
      · have hb : (g == k) = false := beq_eq_false_iff_ne.mpr h
        simp only [List.lookup, hb, if_neg (fun e : g = f => h (e.trans hk.symm))]
    · rw [if_neg hk]
      by_cases h : g = k
      · have hb : (g == k) = true := beq_iff_eq.mpr h
        simp only [List.lookup, hb, if_neg (fun e : g = f => hk (h.symm.trans e))]
      · have hb : (g == k) = false := beq_eq_false_iff_ne.mpr h
        simp only [List.lookup, hb]
        exact ih
theorem keys_putF (f : Str) (v : V) : ∀ fs : List (Str × V), f ∈ (putF f v fs).map (·.1) ∧ ∀ g, g ∈ fs.map (·.1) → g ∈ (putF f v fs).map (·.1)
  | [] => ⟨by simp [putF], fun g h => by simp at h⟩
  | (k, x) :: r => by
    obtain ⟨i1, i2⟩ := keys_putF f v r
    rw [show putF f v ((k, x) :: r) = (if k = f then (k, v) :: r else (k, x) :: putF f v r) from rfl]
    by_cases hk : k = f
    · rw [if_pos hk]
      subst hk
      exact ⟨by simp, fun g h => by simpa using h⟩
    · rw [if_neg hk]
      refine ⟨?_, fun g h => ?_⟩
      · rw [List.map_cons]
        exact List.mem_cons_of_mem _ i1
      · rw [List.map_cons] at h ⊢
        rcases List.mem_cons.mp h with e | e
        · exact List.mem_cons.mpr (.inl e)
        · exact List.mem_cons_of_mem _ (i2 g e)
theorem length_putF (f : Str) (v : V) : ∀ fs : List (Str × V), (putF f v fs).length ≤ fs.length + 1
  | [] => by simp [putF]
  | (k, x) :: r => by
    have ih := length_putF f v r
    rw [show putF f v ((k, x) :: r) = (if k = f then (k, v) :: r else (k, x) :: putF f v r) from rfl]
    by_cases hk : k = f
    · rw [if_pos hk, List.length_cons, List.length_cons]; lia
    · rw [if_neg hk, List.length_cons, List.length_cons]; lia

theorem RelO.some_of {v : V} {o : Option Value} (r : RelO (some v) o) : ∃ u, o = some u ∧ RelV v u := by
  cases o with
  | none => exact (show False from r).elim
  | some u => exact ⟨u, rfl, r⟩
theorem handed_of {v : V} {u : Value} (r : RelV v u) : PySem.W.handedIn u = true := by
  cases v with
  | non => cases (show u = Value.none from r); rfl
  | bl b => cases (show u = Value.bool b from r); rfl
  | int i => obtain ⟨t, e⟩ := (show ∃ t, u = Value.int i t from r); cases e; rfl
  | str x => obtain ⟨t, e⟩ := (show ∃ t, u = Value.str x t from r); cases e; rfl
  | byt b => obtain ⟨t, e⟩ := (show ∃ t, u = Value.bytes b t from r); cases e; rfl
  | flt b => obtain ⟨t, e⟩ := (show ∃ t, u = Value.float b t from r); cases e; rfl
  | ref a => cases (show u = Value.ref a from r); rfl
  | ty n => cases (show u = Value.type n from r); rfl

section
variable {P : Program} {w : World} {H H' : Hp} {h h' : Heap} {a C dx : Addr} {fs fs' : List (Str × V)}
theorem ins_get (hok : HOk P w H h) (e : H a = some (.ins C dx fs)) : ∃ mA, ObjM h a dx C mA ∧ (∀ f, RelO (fs.lookup f) (mA f)) ∧ PySem.Within mA (fs.map (·.1)) ∧ fs.length ≤ 1000 ∧ H dx = some (.own a) := by
  obtain ⟨d, z, ne, ob, mA, n, r, q⟩ := (show ObjOk P w H h a (.ins C dx fs) from hok a _ e)
  exact ⟨mA, ⟨ob, n, ne⟩, r, q, z, d⟩
end

structure Cls (K : PySem.W.Frag) (C : Addr) : Prop where
  pg : PySem.W.plainGet K C Str.empty = true
  hd : PySem.W.hasDictIn K C = true
  po : PySem.W.plainOver K C = true
  sa : PySem.W.findIn K (.ref C) "__setattr__" = some (some (.builtin "object.__setattr__"))
theorem Cls.get {K : PySem.W.Frag} {C : Addr} (c : Cls K C) (f : Str) : PySem.W.plainGet K C f = true := c.pg
noncomputable def NoAttr (K : PySem.W.Frag) (C : Addr) (f : Str) : Prop := PySem.W.findIn K (.ref C) f = some none
theorem NoAttr.taker {K : PySem.W.Frag} {C : Addr} {f : Str} (n : NoAttr K C f) : PySem.W.takerIn K C f = some none := by
  unfold PySem.W.takerIn
  rw [show PySem.W.findIn K (.ref C) f = some none from n]
  rfl

section
variable {X : Cx} {pins : List (Addr × Obj)} {σ : St} {H : Hp} {s : Shared} {a C dx : Addr} {fs : List (Str × V)} {f : Str} {v : V} {A : Around} {E : Value → Shared → Prop}

theorem getattr_ok {b : Bool} {Q : Value → Shared → Prop} (I : Inv X pins σ H s) (e : H a = some (.ins C dx fs)) (c : Cls X.K C) (n : NoAttr X.K C f) (l : fs.lookup f = some v)
    (h : ∀ u s', Inv X pins σ H s' → RelV v u → Q u s') : wpAny (model X.prog X.w) A (getAttr (.ref a) f b) Q E s := by
  obtain ⟨mA, O, r, _, _, _⟩ := ins_get I.hok e
  obtain ⟨u, hu, ru⟩ := RelO.some_of (v := v) (o := mA f) (by rw [← l]; exact r f)
  exact get_map I.kIn O (c.get f) c.hd n hu (handed_of ru) (h u _ (I.tok _) ru)



theorem setattr_ok {y : V} {u : Value} {Q : Unit → Shared → Prop} (I : Inv X pins σ H s) (e : H a = some (.ins C dx fs)) (c : Cls X.K C) (n : NoAttr X.K C f) (hl : fs.length < 1000) (ry : RelV y u)
    (h : ∀ s', Inv X pins σ (upd H a (.ins C dx (putF f y fs))) s' → Q () s') : wpAny (model X.prog X.w) A (setAttr (.ref a) f u) Q E s := by
  obtain ⟨mA, O, r, wi, _, ho⟩ := ins_get I.hok e
  have hz : (fs.map (·.1)).length ≤ sizeLine := by rw [List.length_map, sizeLine_eq]; lia
  refine set_map I.kIn O c.sa c.po n.taker c.hd wi hz fun h' O' sb => h _ ?_
  have hd : ∃ o, h'.get? dx = some o := let ⟨o, _, _, e', _⟩ := O'.ns; ⟨o, e'⟩
  refine I.write (x := a) (e := dx) (by rw [e]; exact True.intro) (.inr ho) (fun b q hb z => (sb.2 b hb).trans z) hd ?_
  refine ⟨by rw [upd_ne O.ne]; exact ho, ?_, O.ne, O'.obj, _, O'.ns, fun g => ?_, fun g hg => ?_⟩
  · have := length_putF f y fs; lia
  · show RelO ((putF f y fs).lookup g) (if g = f then some u else mA g)
    rw [lookup_putF]
    by_cases q : g = f
    · rw [if_pos q, if_pos q]; exact ry
    · rw [if_neg q, if_neg q]; exact r g
  · by_cases q : g = f
    · rw [q]; exact (keys_putF f y fs).1
    · refine (keys_putF f y fs).2 g (wi g fun z => hg ?_)
      show (if g = f then some u else mA g) = none
      rw [if_neg q]; exact z

theorem Inv.made (I : Inv X pins σ H s) : Inv X pins σ (upd (upd H s.heap.objs.size (.own (s.heap.objs.size + 1))) (s.heap.objs.size + 1) (.ins C s.heap.objs.size []))
    { s with heap := (s.heap.push PySem.W.emptyDict).push (PySem.W.instObj C s.heap.objs.size) } := by
  have e1 : (s.heap.push PySem.W.emptyDict).get? s.heap.objs.size = some PySem.W.emptyDict := Heap.get?_push_size s.heap rfl
  have e2 : ((s.heap.push PySem.W.emptyDict).push (PySem.W.instObj C s.heap.objs.size)).get? (s.heap.objs.size + 1) = some (PySem.W.instObj C s.heap.objs.size) := by
    have := Heap.get?_push_size (s.heap.push PySem.W.emptyDict) (o := PySem.W.instObj C s.heap.objs.size) rfl
    rwa [Heap.size_push] at this
  have e3 : (s.heap.push PySem.W.emptyDict).Ns s.heap.objs.size (fun _ => none) := ⟨PySem.W.emptyDict, #[], _, e1, rfl, (fun e he => absurd he (by simp)), fun _ => rfl⟩
  have I1 := I.laid (a := s.heap.objs.size) (o := .own (s.heap.objs.size + 1)) (h' := s.heap.push PySem.W.emptyDict) (t' := s.toks) (fun b u q => Heap.get?_push_of_some _ q) (Nat.le_refl _) ⟨_, e1⟩
  refine I1.laid (a := s.heap.objs.size + 1) (o := .ins C s.heap.objs.size []) (t' := s.toks) (fun b u q => Heap.get?_push_of_some _ q) (Nat.le_of_eq (Heap.size_push _ _)) ?_
  have ne : s.heap.objs.size ≠ s.heap.objs.size + 1 := Nat.ne_of_lt (Nat.lt_succ_self _)
  refine ⟨by rw [upd_ne ne, upd_same], Nat.zero_le _, ne, e2, fun _ => none, (Heap.Ns1.of_empty e3).at fun o q => Heap.get?_push_of_some _ q, fun _ => True.intro, fun y hy => absurd rfl hy⟩

theorem attr_of {prog : Program} {w : World} {env : Env} {e : Expr} {f : Str} {pos : Pos} {s : Shared} {Q : Value → Shared → Prop} (hb : attributeBase e f env (eval e env) = eval e env)
    (h : wpAny (model prog w) A (eval e env) (fun o s₁ => wpAny (model prog w) A (getAttr o f true) Q E s₁) E s) : wpAny (model prog w) A (eval (.Attribute e f pos) env) Q E s :=
  Attribute_any_ h (by rw [arm_eval_Attribute, hb])
end

inductive FldP (K : PySem.W.Frag) (f : Str) (x : V) (H1 : Hp) (Q : VK) : Prop
  | mk (a : Addr) (C : Addr) (dx : Addr) (fs : _) (v : V) (h0 : x = .ref a) (h1 : H1 a = some (.ins C dx fs)) (h2 : Cls K C) (h3 : NoAttr K C f) (h4 : fs.lookup f = some v) (q : Q v H1)
noncomputable def tFld (K : PySem.W.Frag) (ta : TE) (f : Str) : TE := fun σ H Q => ta σ H fun x H1 => FldP K f x H1 Q
noncomputable def sFld (K : PySem.W.Frag) (ta tv : TE) (f : Str) : TS := fun D σ H => tv σ H fun y H1 => ta σ H1 fun x H2 => ∃ a C dx fs, x = .ref a ∧ H2 a = some (.ins C dx fs) ∧ Cls K C ∧ NoAttr K C f ∧ fs.length < 1000 ∧
  D.nx σ (upd H2 a (.ins C dx (putF f y fs)))

section
variable {X : Cx} {o e value : Expr} {f : Str} {pos pos' tpos : Pos} {ta tv : TE}
theorem pe_fld (he : PE X e ta) (hb : attributeBase e f X.env (eval e X.env) = eval e X.env) : PE X (.Attribute e f pos) (tFld X.K ta f) := by
  intro pins s σ H Q I h
  refine attr_of hb (thn (he pins s σ H _ I h) fun u s1 z_ => ?_)
  obtain ⟨x, H1, I1, rx, a, C, dx, fs, v, ex, ea, c, n, l, q⟩ := z_
  subst ex
  obtain rfl : u = Value.ref a := rx
  exact getattr_ok I1 ea c n l fun u' s2 I2 ru => ⟨v, H1, I2, ru, q⟩
theorem ps_fld (ha : PE X o ta) (hv : PE X value tv) (hs : swapsWith value (some (.Attribute o f pos')) pos.line X.env = pure false) : PS X (.Assign [.Attribute o f pos'] value pos) (sFld X.K ta tv f) := by
  intro pins s σ H D I h
  refine plainObj_wpAny_Assign_Attribute (thn (hv pins s σ H _ I h) fun u s1 ⟨y, H1, I1, ry, q⟩ => thn (ha pins s1 σ H1 _ I1 q) fun ov s2 ⟨x, H2, I2, rx, a, C, dx, fs, ex, ea, c, n, l, q2⟩ => ?_) hs
  subst ex
  obtain rfl : ov = Value.ref a := rx
  exact setattr_ok I2 ea c n l ry fun s3 I3 => ⟨σ, _, I3, q2⟩

end

section
variable {X : Cx} {pins : List (Addr × Obj)} {σ : St} {H : Hp} {s : Shared} {A : Around} {E : Value → Shared → Prop} {Q : Value → Shared → Prop} {c : Value} {b : Bool}
inductive TyOf (K : PySem.W.Frag) (H : Hp) : V → Value → Prop where
  | non : TyOf K H .non (.type "NoneType")
  | bl (x : Bool) : TyOf K H (.bl x) (.type "bool")
  | int (i : Int) : TyOf K H (.int i) (.type "int")
  | str (x : Str) : TyOf K H (.str x) (.type "str")
  | flt (x : UInt64) : TyOf K H (.flt x) (.type "float")
  | lst {a : Addr} {xs : List V} (e : H a = some (.lst xs)) : TyOf K H (.ref a) (.type "list")
  | frz {a : Addr} {o : Obj} {xs : List V} (e : H a = some (.frz o (.lst xs))) : TyOf K H (.ref a) (.type "list")
  | tup {a : Addr} {xs : List V} (e : H a = some (.tup xs)) : TyOf K H (.ref a) (.type "tuple")
  | dK {a : Addr} {kvs : List (Key × V)} (e : H a = some (.dK kvs)) : TyOf K H (.ref a) (.type "dict")
  | dT {a : Addr} {kvs : List (List Key × V)} (e : H a = some (.dT kvs)) : TyOf K H (.ref a) (.type "dict")
  | ins {a C dx : Addr} {fs : List (Str × V)} (e : H a = some (.ins C dx fs)) (cl : Cls K C) (ha : PySem.W.findIn K (.ref C) "__class__" = some (some (.builtin "object.__class__")))
      (hn : PySem.W.specialIn K (.builtin "object.__class__") "__get__" = some (some (.builtin "getset_descriptor.__get__"))) (htk : PySem.W.takesIn K (.builtin "object.__class__") = some true)
      (hm : PySem.W.mroIn K C (.type "object") = some true) : TyOf K H (.ref a) (.ref C)
theorem isinst_ok {x : V} {u t : Value} (I : Inv X pins σ H s) (rx : RelV x u) (ty : TyOf X.K H x t) (e : PySem.W.kitOne X.K t c = some b) (h : ∀ tk, Q (.bool b) { s with toks := tk }) :
    wpAny (model X.prog X.w) A (call (.builtin "isinstance") [u, c]) Q E s := by
  cases ty with
  | non => cases (show u = Value.none from rx); exact PySem.W.kia_one PySem.W.kitx_none I.kIn True.intro e (fun z => nomatch z) h
  | bl y => cases (show u = Value.bool y from rx); exact PySem.W.kia_one PySem.W.kitx_bool I.kIn True.intro e (fun z => nomatch z) h
  | int i => obtain ⟨t, q⟩ := (show ∃ t, u = Value.int i t from rx); cases q; exact PySem.W.kia_one PySem.W.kitx_int I.kIn True.intro e (fun z => nomatch z) h
  | str y => obtain ⟨t, q⟩ := (show ∃ t, u = Value.str y t from rx); cases q; exact PySem.W.kia_one PySem.W.kitx_str I.kIn True.intro e (fun z => nomatch z) h
  | flt y => obtain ⟨t, q⟩ := (show ∃ t, u = Value.float y t from rx); cases q; exact PySem.W.kia_one PySem.W.kitx_float I.kIn True.intro e (fun z => nomatch z) h
  | @lst a xs ea =>
    cases (show u = Value.ref a from rx)
    obtain ⟨_, _, n, _, h1⟩ := (show ObjOk X.prog X.w H s.heap a (.lst xs) from I.hok a _ ea)
    exact PySem.W.kia_one PySem.W.kitx_list I.kIn ⟨_, h1, rfl⟩ e (fun z => nomatch z) h
  | @frz a ob xs ea =>
    cases (show u = Value.ref a from rx)
    obtain ⟨_, _, _, n, _, h1⟩ := (show ObjOk X.prog X.w H s.heap a (.frz ob (.lst xs)) from I.hok a _ ea)
    exact PySem.W.kia_one PySem.W.kitx_list I.kIn ⟨_, h1, rfl⟩ e (fun z => nomatch z) h
  | @tup a xs ea =>
    cases (show u = Value.ref a from rx)
    obtain ⟨_, _, _, p⟩ := (show ObjOk X.prog X.w H s.heap a (.tup xs) from I.hok a _ ea)
    obtain ⟨o, h1, h2, _⟩ := p
    exact PySem.W.kia_one PySem.W.kitx_tuple I.kIn ⟨o, h1, h2⟩ e (fun z => nomatch z) h
  | @dK a kvs ea =>
    cases (show u = Value.ref a from rx)
    obtain ⟨_, _, vs, _, p⟩ := (show ObjOk X.prog X.w H s.heap a (.dK kvs) from I.hok a _ ea)
    obtain ⟨o, es, ep, h1, h2, _⟩ := p
    exact PySem.W.kia_one PySem.W.kitx_dict I.kIn ⟨o, h1, h2.1⟩ e (fun z => nomatch z) h
  | @dT a kvs ea =>
    cases (show u = Value.ref a from rx)
    obtain ⟨_, _, xs, _, o, es, ep, h1, h2, _⟩ := (show ObjOk X.prog X.w H s.heap a (.dT kvs) from I.hok a _ ea)
    exact PySem.W.kia_one PySem.W.kitx_dict I.kIn ⟨o, h1, h2.1⟩ e (fun z => nomatch z) h
  | @ins a C dx fs ea cl ha hn htk hm =>
    cases (show u = Value.ref a from rx)
    obtain ⟨mA, O, _⟩ := ins_get I.hok ea
    obtain ⟨od, J, _⟩ := O.look
    exact PySem.W.kia_one (PySem.W.kitx_own (cl.get _) cl.hd ha hn htk hm) I.kIn J e (fun z => nomatch z) h
end
end L2

namespace L2
open PySem PySem.Spec PyProof.Rows

structure Room (k : Nat) (A : Around) : Prop where
  hd : A.handled = none
  dp : A.depth + 3 * k + 5 < recursionLimit
  un : A.units + 16 * k + 200 < cLine
  gd : A.guards = some []
theorem Room.mono {j k : Nat} {A : Around} (r : Room k A) (h : j ≤ k) : Room j A := ⟨r.hd, by have := r.dp; lia, by have := r.un; lia, r.gd⟩
theorem Room.deeper {k : Nat} {A : Around} (r : Room (k + 1) A) (env : Env) : Room k (A.deeper env) :=
  ⟨r.hd, by have := r.dp; show A.depth + 1 + 3 * k + 5 < _; lia, by have := r.un; show A.units + 3 + 16 * k + 200 < _; lia, r.gd⟩
theorem make_depth {A : Around} {C : Addr} {us : List Value} {kw : List (Str × Value)} : (A.under (.builtin "type.__call__" ⟨.ref C :: us, kw⟩)).depth = A.depth + 1 := by
  first | rfl | simp [Around.under, Code.weight, Code.isCreation, Code.isGuard, Code.isCaller, Code.frames, Code.isFrame, guardIds]
theorem make_units {A : Around} {C : Addr} {us : List Value} {kw : List (Str × Value)} : (A.under (.builtin "type.__call__" ⟨.ref C :: us, kw⟩)).units = A.units + 1 := by
  first | rfl | simp [Around.under, Code.cUnits, Code.frames, Code.isFrame]
theorem Room.make {k : Nat} {A : Around} (r : Room (k + 1) A) (C : Addr) (us : List Value) (kw : List (Str × Value)) : Room k (A.under (.builtin "type.__call__" ⟨.ref C :: us, kw⟩)) :=
  ⟨r.hd, by have := r.dp; rw [make_depth]; lia, by have := r.un; rw [make_units]; lia, by simp [Around.under, Code.guards, Code.isGuard, guardIds, pushGuards, r.gd]⟩
theorem Room.depth {k : Nat} {A : Around} (r : Room k A) : A.depth < recursionLimit := by have := r.dp; lia
theorem Room.units {k : Nat} {A : Around} (r : Room k A) : A.units + 64 < cLine := by have := r.un; lia

noncomputable def tNil : TA := fun _ H Q => Q [] H
noncomputable def tCons (ta : TE) (tr : TA) : TA := fun σ H Q => ta σ H fun x H1 => tr σ H1 fun xs H2 => Q (x :: xs) H2
section
variable {X : Cx} {e : Expr} {es : List Expr} {te : TE} {t : TA} {pos : Pos}
theorem pa_nil : PA X [] tNil := fun _ _ _ _ H Q I h => Calls.spliced_nil ⟨[], H, I, .nil, h⟩
theorem pa_cons (ha : PE X e te) (hr : PA X es t) (hs : starEach (e :: es) X.env = (false, eval e X.env) :: starEach es X.env := by rfl) : PA X (e :: es) (tCons te t) := by
  intro pos pins s σ H Q I h
  rw [hs]
  show wpAny _ _ (spliced ((false, eval e X.env) :: backTo pos (starEach es X.env))) _ _ s
  refine Calls.spliced_cons (thn (ha pins s σ H _ I h) fun u s1 z_ => ?_)
  obtain ⟨x, H1, I1, r1, q1⟩ := z_
  exact thn (hr pos pins s1 σ H1 _ I1 q1) fun us s2 ⟨xs, H2, I2, r2, q2⟩ => ⟨x :: xs, H2, I2, .cons r1 r2, q2⟩

noncomputable def tTup (t : TA) : TE := fun σ H Q => t σ H fun xs H1 => xs.length ≤ sizeLine ∧ ∀ p, H1 p = none → Q (.ref p) (upd H1 p (.tup xs))
noncomputable def tLst (t : TA) : TE := fun σ H Q => t σ H fun xs H1 => xs.length ≤ sizeLine ∧ ∀ p, H1 p = none → Q (.ref p) (upd H1 p (.lst xs))
theorem pe_tup {x1} (h : PA X es t) : PE X (.Tuple es x1 pos) (tTup t) := by
  intro pins s σ H Q I hq
  refine wpAny_Tuple_spliced (thn (h pos pins s σ H _ I hq) fun us s1 ⟨xs, H1, I1, r, z, q⟩ => ⟨by rw [← r.length]; exact z, ?_⟩)
  have hf : H1 s1.heap.objs.size = none := I1.hok.fresh (Nat.le_refl _)
  refine ⟨.ref s1.heap.objs.size, upd H1 s1.heap.objs.size (.tup xs), I1.laid (t' := s1.toks) (fun b u e => Heap.get?_push_of_some _ e) (Nat.le_refl _) ?_, rfl, q _ hf⟩
  exact ⟨z, us, r, ⟨_, Heap.get?_push_size _ rfl, rfl, _, rfl⟩⟩
theorem pe_lst (h : PA X es t) : PE X (.List es pos) (tLst t) := by
  intro pins s σ H Q I hq
  refine wpAny_List_spliced (thn (h pos pins s σ H _ I hq) fun us s1 ⟨xs, H1, I1, r, z, q⟩ => ⟨by rw [← r.length]; exact z, ?_⟩)
  have hf : H1 s1.heap.objs.size = none := I1.hok.fresh (Nat.le_refl _)
  refine ⟨.ref s1.heap.objs.size, upd H1 s1.heap.objs.size (.lst xs), I1.laid (t' := s1.toks) (fun b u e => Heap.get?_push_of_some _ e) (Nat.le_refl _) ?_, rfl, q _ hf⟩
  exact ⟨z, us, 0, r, Heap.get?_push_size _ rfl⟩
end

noncomputable abbrev Sp := List V → Hp → VK → XK → Prop
noncomputable abbrev CXT := List Env → Hp → Shared → XK → Value → Shared → Prop

structure Env0 (P : Program) (w : World) (K : PySem.W.Frag) (mg : Str → Option Value) (base : Heap) (A : Around) (outer : List Env) (s : Shared) (H : Hp) : Prop where
  frames : A.frames = some outer
  mod : Mod K mg base
  bs : ∀ b o, base.get? b = some o → s.heap.get? b = some o ∧ H b = none
  bsz : base.objs.size ≤ s.heap.objs.size
  funs : s.heap.FunFrames base outer
  frf : ∀ b ∈ frs outer, H b = none
  hok : HOk P w H s.heap
  bare : AllBare s.gens
noncomputable def CE (outer : List Env) (P : Program) (w : World) (H : Hp) (s : Shared) (Q : VK) (u : Value) (s' : Shared) : Prop :=
  ∃ v H', s'.os = s.os ∧ AllBare s'.gens ∧ Un (frs outer) [] H H' s.heap s'.heap ∧ HOk P w H' s'.heap ∧ RelV v u ∧ Q v H'
noncomputable def CR (CX : CXT) (outer : List Env) (P : Program) (w : World) (H : Hp) (s : Shared) (Q : VK) (E : XK) (r : Result) (s' : Shared) : Prop :=
  match r with
  | .ok (.ret u) => CE outer P w H s Q u s'
  | .ok _ => False
  | .error e => CX outer H s E e s'
structure FnOk (P : Program) (w : World) (K : PySem.W.Frag) (mg : Str → Option Value) (base : Heap) (CX : CXT) (k : Nat) (f : Addr) (fd : FuncData) (ps : List Str) (sp : Sp) : Prop where
  len : ∀ vs H Q E, sp vs H Q E → vs.length = ps.length
  run : ∀ (A : Around) (outer : List Env) (s : Shared) (H : Hp) (args : Args) (us : List Value) (vs : List V) (Q : VK) (E : XK), Room k A → Env0 P w K mg base A outer s H → BindsTo s fd args (ps.zip us) → Vals vs us → sp vs H Q E →
    codeAny (model P w) A (.call (.ref f) args) (CR CX outer P w H s Q E) s
theorem FnOk.imp {P : Program} {w : World} {K : PySem.W.Frag} {mg : Str → Option Value} {base : Heap} {CX : CXT} {k : Nat} {f : Addr} {fd : FuncData} {ps : List Str} {sp sp' : Sp} (F : FnOk P w K mg base CX k f fd ps sp)
    (h : ∀ vs H Q E, sp' vs H Q E → sp vs H Q E) : FnOk P w K mg base CX k f fd ps sp' :=
  ⟨fun vs H Q E q => F.len vs H Q E (h _ _ _ _ q), fun A outer s H args us vs Q E hr he hb hv hs => F.run A outer s H args us vs Q E hr he hb hv (h _ _ _ _ hs)⟩

theorem Env0.make {P : Program} {w : World} {K : PySem.W.Frag} {mg : Str → Option Value} {base : Heap} {A : Around} {outer : List Env} {s : Shared} {H : Hp} (e : Env0 P w K mg base A outer s H) (C : Addr) (us : List Value) (kw : List (Str × Value)) :
    Env0 P w K mg base (A.under (.builtin "type.__call__" ⟨.ref C :: us, kw⟩)) outer s H := ⟨by first | exact e.frames | (simpa [Around.under, Code.envs, Code.isFrame, pushEnvs] using e.frames), e.mod, e.bs, e.bsz, e.funs, e.frf, e.hok, e.bare⟩

section
variable {X : Cx} {pins : List (Addr × Obj)} {σ : St} {H : Hp} {s s' : Shared}
theorem Inv.env0 (I : Inv X pins σ H s) : Env0 X.prog X.w X.K X.mg X.base X.A X.stack s H :=
  ⟨I.ok.frames, I.ok.mod, I.bs, Nat.le_trans I.ok.bsz I.sz, I.stack, I.stkFree, I.hok, I.bare⟩
theorem Inv.after {Q : VK} {u : Value} (I : Inv X pins σ H s) (h : CE X.stack X.prog X.w H s Q u s') : EP X pins σ Q u s' := by
  obtain ⟨v, H', os, bare, un, hok, r, q⟩ := h
  obtain ⟨hh, g, d, t, os'⟩ := s'
  obtain rfl : os' = s.os := os
  exact ⟨v, H', I.call (h' := hh) (g' := g) (d' := d) (t' := t) (ch := []) un hok bare (fun b z => absurd z (by simp)), r, q⟩
end

noncomputable def tCall (sp : Sp) (dvs : List V) (E : XK) (t : TA) : TE := fun σ H Q => t σ H fun vs H1 => sp (vs ++ dvs) H1 Q E
noncomputable def tMake (C : Addr) (sp : Sp) (dvs : List V) (E : XK) (t : TA) : TE := fun σ H Q => t σ H fun vs H1 => ∀ x dx, H1 x = none → H1 dx = none → dx ≠ x →
  sp (.ref x :: (vs ++ dvs)) (upd (upd H1 dx (.own x)) x (.ins C dx [])) (fun v H2 => v = .non ∧ Q (.ref x) H2) E

noncomputable def Binds (K : PySem.W.Frag) (fd : FuncData) (ps : List Str) (ds : List Value) : Prop :=
  ∀ (s : Shared) (us : List Value), K.In s.heap → (us ++ ds).length = ps.length → BindsTo s fd ⟨us, []⟩ (ps.zip (us ++ ds))
theorem Binds.all {K : PySem.W.Frag} {fd : FuncData} {ps : List Str} (h : ∀ us : List Value, us.length = ps.length → bindArgs fd ⟨us, []⟩ = pure (ps.zip us)) : Binds K fd ps [] := fun s us _ hl => by
  rw [List.append_nil] at hl ⊢
  exact .of_eq (h us hl)

noncomputable def Passes (CX : CXT) (X : Cx) (E : XK) : Prop := ∀ (pins : List (Addr × Obj)) (σ : St) (H : Hp) (s : Shared) (e : Value) (s' : Shared), Inv X pins σ H s → CX X.stack H s E e s' → X.xe e s'

section
variable {X : Cx} {CX : CXT} {k : Nat} {f C : Addr} {fd : FuncData} {ps : List Str} {sp : Sp} {dvs : List V} {ds : List Value} {E : XK} {x m : Str} {p pos apos : Pos} {e o : Expr} {es : List Expr} {ta : TE} {t : TA}

theorem run_fn {pins : List (Addr × Obj)} {σ : St} {H : Hp} {s : Shared} {Q : VK} {us : List Value} {vs : List V} (F : FnOk X.prog X.w X.K X.mg X.base CX k f fd ps sp) (hr : Room k X.A) (hb : Binds X.K fd ps ds) (hd : Vals dvs ds) (hx : Passes CX X E)
    (I : Inv X pins σ H s) (r : Vals vs us) (h : sp (vs ++ dvs) H Q E) : wpAny (model X.prog X.w) X.A (call (.ref f) us) (EP X pins σ Q) X.xe s := by
  have r2 : Vals (vs ++ dvs) (us ++ ds) := r.append hd
  have hl : (us ++ ds).length = ps.length := by rw [← r2.length]; exact F.len _ _ _ _ h
  refine wpAny_call (codeAny_mono (F.run X.A X.stack s H ⟨us, []⟩ (us ++ ds) (vs ++ dvs) Q E hr I.env0 (hb s us I.kIn hl) r2 h) fun r s' hq => ?_)
  cases r with
  | error e => exact hx pins σ H s e s' I hq
  | ok fl =>
    cases fl with
    | ret u => exact I.after hq
    | next => exact False.elim hq
    | brk => exact False.elim hq
    | cont => exact False.elim hq

theorem pe_call (F : FnOk X.prog X.w X.K X.mg X.base CX k f fd ps sp) (hr : Room k X.A) (hg : Gl X x) (hm : X.mg x = some (.ref f)) (hk : PySem.W.keepIn X.K (.ref f) = true) (hb : Binds X.K fd ps ds) (hd : Vals dvs ds) (hx : Passes CX X E)
    (ha : PA X (e :: es) t) (hdb : (x == ("__debug__" : Str)) = false := by decide) (he : starEach (e :: es) X.env = (false, eval e X.env) :: starEach es X.env := by rfl) (hpl : (backTo pos (starEach es X.env)).any (·.1) = false := by rfl) :
    PE X (.Call (.Name x p) (e :: es) [] pos) (tCall sp dvs E t) := by
  intro pins s σ H Q I h
  refine wpAny_Call_Name_kw (ld_glob I hg hm ?_ hdb)
  refine PySem.W.callWith_K (h₀ := X.base) I.ok.mod.kin hk (thn (ha pos pins s σ H _ I h) fun us s1 ⟨vs, H1, I1, r, q⟩ => ⟨I1.kIn, ?_⟩) he hpl
  exact run_fn F hr hb hd hx I1 r q


structure Mk (K : PySem.W.Frag) (C f : Addr) : Prop where
  makes : PySem.W.makesIn K C = true
  init : PySem.W.findIn K (.ref C) "__init__" = some (some (.ref f))
  fn : PySem.W.isFn K (.ref f) = true
  kp : PySem.W.keepIn K (.ref C) = true

theorem run_make {pins : List (Addr × Obj)} {σ : St} {H : Hp} {s : Shared} {Q : VK} {us : List Value} {vs : List V} (M : Mk X.K C f) (F : FnOk X.prog X.w X.K X.mg X.base CX k f fd ps sp) (hr : Room (k + 1) X.A) (hb : Binds X.K fd ps ds) (hd : Vals dvs ds)
    (hx : Passes CX X E) (I : Inv X pins σ H s) (r : Vals vs us)
    (h : ∀ x dx, H x = none → H dx = none → dx ≠ x → sp (.ref x :: (vs ++ dvs)) (upd (upd H dx (.own x)) x (.ins C dx [])) (fun v H2 => v = .non ∧ Q (.ref x) H2) E) :
    wpAny (model X.prog X.w) X.A (call (.ref C) us) (EP X pins σ Q) X.xe s := by
  have hq := h (s.heap.objs.size + 1) s.heap.objs.size (I.hok.fresh (Nat.le_succ _)) (I.hok.fresh (Nat.le_refl _)) (Nat.ne_of_lt (Nat.lt_succ_self _))
  have I2 := Inv.made (C := C) I
  have r2 : Vals (V.ref (s.heap.objs.size + 1) :: (vs ++ dvs)) (Value.ref (s.heap.objs.size + 1) :: (us ++ ds)) := .cons rfl (r.append hd)
  have hl : (Value.ref (s.heap.objs.size + 1) :: us ++ ds).length = ps.length := by
    have e := r2.length
    rw [F.len _ _ _ _ hq] at e
    exact e.symm
  refine wpAny_call (make_map (f := f) I.kIn M.makes M.init (beq_iff_eq.mp M.fn) (codeAny_mono (F.run _ X.stack _ _ ⟨Value.ref (s.heap.objs.size + 1) :: us, []⟩ (Value.ref (s.heap.objs.size + 1) :: (us ++ ds)) _ _ E (hr.make C us [])
    (I2.env0.make C us []) (hb _ (Value.ref (s.heap.objs.size + 1) :: us) I2.kIn hl) r2 hq) fun r s' hq' => ?_))
  cases r with
  | error e => exact hx pins σ _ _ e s' I2 hq'
  | ok fl =>
    cases fl with
    | ret u =>
      obtain ⟨v, H', I3, rv, ev, q3⟩ := I2.after hq'
      subst ev
      exact ⟨rv, ⟨V.ref (s.heap.objs.size + 1), H', I3, rfl, q3⟩⟩
    | next => exact False.elim hq'
    | brk => exact False.elim hq'
    | cont => exact False.elim hq'
theorem pe_make (M : Mk X.K C f) (F : FnOk X.prog X.w X.K X.mg X.base CX k f fd ps sp) (hr : Room (k + 1) X.A) (hg : Gl X x) (hm : X.mg x = some (.ref C)) (hb : Binds X.K fd ps ds) (hd : Vals dvs ds) (hx : Passes CX X E)
    (ha : PA X (e :: es) t) (hdb : (x == ("__debug__" : Str)) = false := by decide) (he : starEach (e :: es) X.env = (false, eval e X.env) :: starEach es X.env := by rfl) (hpl : (backTo pos (starEach es X.env)).any (·.1) = false := by rfl) :
    PE X (.Call (.Name x p) (e :: es) [] pos) (tMake C sp dvs E t) := by
  intro pins s σ H Q I h
  refine wpAny_Call_Name_kw (ld_glob I hg hm ?_ hdb)
  refine PySem.W.callWith_K (h₀ := X.base) I.ok.mod.kin M.kp (thn (ha pos pins s σ H _ I h) fun us s1 ⟨vs, H1, I1, r, q⟩ => ⟨I1.kIn, ?_⟩) he hpl
  exact run_make M F hr hb hd hx I1 r q
end

section
variable {X : Cx} {CX : CXT} {k : Nat} {f C : Addr} {fd : FuncData} {ps ks : List Str} {sp : Sp} {E : XK} {x m : Str} {p pos apos kpos : Pos} {e o : Expr} {es : List Expr} {kws : List Keyword} {te ta : TE} {t tk : TA} {nm : Option Str}

variable {g : List Value → List Value → List Value} {gV : List V → List V → List V}
end

structure FnScope (N P : List Str) (sc : Scope) : Prop where
  kind : sc.kind = .function
  co : sc.isCoroutine = false
  gen : sc.isGenerator = false
  nd : N.Nodup
  pre : N.take P.length = P
  par : ∀ x ∈ P, sc.names.lookup x = some .local ∨ sc.names.lookup x = some .cell
  nofree : ∀ y ∈ sc.names, y.2 ≠ .free

theorem bindL_out {kindOf : Str → Option NameKind} {x : Str} : ∀ {binds : List (Str × Value)} {m : Str → Option Value}, (∀ v, (x, v) ∉ binds) → bindL kindOf binds m x = m x
  | [], _, _ => rfl
  | (n, v) :: r, m, h => by
    unfold bindL
    rw [bindL_out fun w hw => h w (List.mem_cons_of_mem _ hw)]
    split
    · have : x ≠ n := by rintro rfl; exact h v List.mem_cons_self
      simp [this]
    · rfl
theorem bindC_out {kindOf : Str → Option NameKind} {x : Str} : ∀ {binds : List (Str × Value)} {m : Str → Option Value}, (∀ v, (x, v) ∉ binds) → bindC kindOf binds m x = m x
  | [], _, _ => rfl
  | (n, v) :: r, m, h => by
    unfold bindC
    rw [bindC_out fun w hw => h w (List.mem_cons_of_mem _ hw)]
    split
    · rfl
    · have : x ≠ n := by rintro rfl; exact h v List.mem_cons_self
      simp [this]
theorem bindL_get {kindOf : Str → Option NameKind} {x : Str} {v : Value} : ∀ {P : List Str} {vs : List Value} {i : Nat} {m : Str → Option Value}, P.Nodup → P[i]? = some x → vs[i]? = some v → kindOf x = some .local →
    bindL kindOf (P.zip vs) m x = some v
  | [], _, _, _, _, h, _, _ => by simp at h
  | _ :: _, [], _, _, _, _, h, _ => by simp at h
  | p :: P, w :: vs, 0, m, nd, h1, h2, hk => by
    simp at h1 h2; subst h1; subst h2
    show bindL kindOf ((p, w) :: P.zip vs) m p = _
    unfold bindL
    rw [bindL_out fun v hv => (List.nodup_cons.mp nd).1 (List.of_mem_zip hv).1, if_pos hk]
    simp
  | p :: P, w :: vs, i + 1, m, nd, h1, h2, hk => by
    show bindL kindOf ((p, w) :: P.zip vs) m x = _
    unfold bindL
    exact bindL_get (i := i) (List.nodup_cons.mp nd).2 (by simpa using h1) (by simpa using h2) hk
theorem bindC_get {kindOf : Str → Option NameKind} {x : Str} {v : Value} : ∀ {P : List Str} {vs : List Value} {i : Nat} {m : Str → Option Value}, P.Nodup → P[i]? = some x → vs[i]? = some v → kindOf x ≠ some .local →
    bindC kindOf (P.zip vs) m x = some v
  | [], _, _, _, _, h, _, _ => by simp at h
  | _ :: _, [], _, _, _, _, h, _ => by simp at h
  | p :: P, w :: vs, 0, m, nd, h1, h2, hk => by
    simp at h1 h2; subst h1; subst h2
    show bindC kindOf ((p, w) :: P.zip vs) m p = _
    unfold bindC
    rw [bindC_out fun v hv => (List.nodup_cons.mp nd).1 (List.of_mem_zip hv).1, if_neg hk]
    simp
  | p :: P, w :: vs, i + 1, m, nd, h1, h2, hk => by
    show bindC kindOf ((p, w) :: P.zip vs) m x = _
    unfold bindC
    exact bindC_get (i := i) (List.nodup_cons.mp nd).2 (by simpa using h1) (by simpa using h2) hk

noncomputable def start (N : List Str) (vs : List V) : St := vs.map some ++ List.replicate (N.length - vs.length) none

noncomputable def cxOf (CX : CXT) (P : Program) (w : World) (K : PySem.W.Frag) (mg : Str → Option Value) (base : Heap) (N : List Str) (qual : Str) (scope : Scope) (f : Addr) (cd : Value) (A : Around) (outer : List Env) (s : Shared) (H : Hp) (E : XK) : Cx where
  prog := P
  w := w
  K := K
  mg := mg
  base := base
  A := A.deeper (envOfC qual scope s.heap.objs.size f cd)
  N := N
  s₀ := s
  H₀ := H
  env := envOfC qual scope s.heap.objs.size f cd
  outer := outer
  stack := envOfC qual scope s.heap.objs.size f cd :: outer
  ex := []
  calm := true
  fn := fun _ => true
  pn := []
  xe := fun e s' => wpAny (model P w) (A.deeper (envOfC qual scope s.heap.objs.size f cd)) (leaving (envOfC qual scope s.heap.objs.size f cd) e) (fun _ s'' => CX outer H s E e s'') (fun e' s'' => CX outer H s E e' s'') s'

theorem cell_has {sc : Scope} {n : Nat} {x : Str} (h : sc.names.lookup x = some .cell) : ∃ c, (cellsFrom n sc.names []).lookup x = some c := by
  have q := PySem.W.cellsFrom_some sc.names n [] (.inl h)
  exact Option.isSome_iff_exists.mp q

theorem inv_start {CX : CXT} {P : Program} {w : World} {K : PySem.W.Frag} {mg : Str → Option Value} {base : Heap} {N ps : List Str} {qual : Str} {scope : Scope} {f : Addr} {cd : Value} {A : Around} {outer : List Env} {s s1 : Shared} {H : Hp} {E : XK} {us : List Value} {vs : List V}
    (S : FnScope N ps scope) (hd : A.handled = none) (e0 : Env0 P w K mg base A outer s H) (hl : vs.length = ps.length) (r : Vals vs us)
    (x : InCallC s s.heap.objs.size (bindL (envOfC qual scope s.heap.objs.size f cd).kindOf (ps.zip us) fun _ => none) (cellsFrom (s.heap.objs.size + 1) scope.names []) (bindC (envOfC qual scope s.heap.objs.size f cd).kindOf (ps.zip us) fun _ => none) s1) :
    Inv (cxOf CX P w K mg base N qual scope f cd A outer s H E) [] (start N vs) H s1 := by
  have hpl : ps.length ≤ N.length := by have := congrArg List.length S.pre; rw [List.length_take] at this; lia
  obtain ⟨h1, tk, rfl, hk⟩ := x.done
  have noA : ∀ b : Addr, b ∉ (cxOf CX P w K mg base N qual scope f cd A outer s H E).ex := fun b z => absurd (show b ∈ ([] : List Addr) from z) (by simp)
  refine ⟨⟨e0.mod, S.kind, rfl, rfl, Nat.le_refl _, fun y z c h1 h2 => ?_, fun y hy => ?_, fun y c _ h => ?_, fun _ => hd, Around.frames_deeper e0.frames, .inr ⟨rfl, rfl⟩, fun b z => absurd z (noA b), e0.bs, e0.bsz, fun b _ _ => noA b, fun b z => absurd z (noA b), e0.funs, e0.frf⟩,
    rfl, e0.bare, Un.kept hk, ⟨_, x.toInCall.ns, fun i y v h1 h2 h3 => ?_⟩, fun y c h => ⟨_, x.cell y c h⟩, e0.hok.fresh (Nat.le_refl _), fun y c h => ?_, fun p hp => absurd (show p ∈ ([] : List (Addr × Obj)) from hp) (by simp), e0.hok.kept hk, ?_⟩
  · exact name_of_addr x.apart (PySem.mem_of_lookup h1) (PySem.mem_of_lookup h2)
  · have hy : scope.names.lookup y = some .cell ∨ scope.names.lookup y = some .free := hy
    rcases hy with hy | hy
    · exact cell_has hy
    · exact absurd rfl (S.nofree _ (PySem.mem_of_lookup hy))
  · exact Nat.le_of_lt (x.above y c (PySem.mem_of_lookup h))
  · have hi : i < vs.length := by
      unfold start at h2
      by_cases hi : i < vs.length
      · exact hi
      · rw [List.getElem?_append_right (by simpa using hi)] at h2
        rw [List.getElem?_replicate] at h2
        split at h2 <;> cases h2
    have ha : vs[i]? = some v := by
      unfold start at h2
      rw [List.getElem?_append_left (by simpa using hi), List.getElem?_map] at h2
      cases e : vs[i]? with
      | none => rw [e] at h2; cases h2
      | some a => rw [e] at h2; cases h2; rfl
    obtain ⟨u, hu, rv⟩ := r.get ha
    have hp : ps[i]? = some y := by
      rw [← S.pre, List.getElem?_take_of_lt (by lia)]; exact h1
    have ndP : ps.Nodup := by rw [← S.pre]; exact S.nd.sublist (List.take_sublist _ _)
    refine ⟨u, rv, ?_⟩
    rcases S.par y (List.mem_of_getElem? hp) with k | k
    · exact .inl ⟨k, bindL_get ndP hp hu k⟩
    · obtain ⟨c, e⟩ := cell_has (n := s.heap.objs.size + 1) k
      refine .inr ⟨.inl k, c, e, ?_⟩
      have q := x.cell y c e
      rw [bindC_get ndP hp hu (by show scope.names.lookup y ≠ _; rw [k]; decide)] at q
      exact q
  · exact e0.hok.fresh (Nat.le_of_lt (x.above y c (PySem.mem_of_lookup h)))
  · unfold start
    show _ = N.length
    rw [List.length_append, List.length_map, List.length_replicate]
    lia

theorem fn_of {CX : CXT} {P : Program} {w : World} {K : PySem.W.Frag} {mg : Str → Option Value} {base : Heap} {k : Nat} {f : Addr} {name qual : Str} {params : Arguments} {body : List Stmt} {scope : Scope} {dV kV doc pm cdv ct oc : Value} {an od : Option Addr}
    {osl : Array (Option Value)} {N ps : List Str} {sp : Sp} (lk : K.lookup f = some ⟨oc, od, .func (PySem.W.fnOf name qual params body scope dV kV doc pm an cdv ct), osl⟩) (hcd : PySem.W.codeIn K cdv qual = true) (S : FnScope N ps scope)
    (len : ∀ vs H Q E, sp vs H Q E → vs.length = ps.length)
    (hbody : ∀ (A : Around) (outer : List Env) (s : Shared) (H : Hp) (vs : List V) (Q : VK) (E : XK), Room k (A.deeper (envOfC qual scope s.heap.objs.size f cdv)) → sp vs H Q E →
      ∃ t, PSs (cxOf CX P w K mg base N qual scope f cdv A outer s H E) body t ∧ t { nx := fun _ H' => Q .non H', rt := Q } (start N vs) H) :
    FnOk P w K mg base CX (k + 1) f (PySem.W.fnOf name qual params body scope dV kV doc pm an cdv ct) ps sp := by
  refine ⟨len, fun A outer s H args us vs Q E hr e0 hb r hsp => ?_⟩
  have hl := len _ _ _ _ hsp
  have KX : K.In s.heap := e0.mod.kin.keeps fun b o e => (e0.bs b o e).1
  have lim : s.heap.NoLimit := e0.mod.nolimit.keeps fun b o e => (e0.bs b o e).1
  have hkind : ∀ y ∈ ps.zip us, scope.names.lookup y.1 = some .local ∨ (scope.names.lookup y.1 = some .cell ∧ ((cellsFrom (s.heap.objs.size + 1) scope.names []).lookup y.1).isSome = true) := fun ⟨n, v⟩ hy => by
    rcases S.par n (List.of_mem_zip hy).1 with q | q
    · exact .inl q
    · exact .inr ⟨q, PySem.W.cellsFrom_some _ _ _ (.inl q)⟩
  refine codeAny_call_function hr.depth (KX _ _ lk) rfl S.co S.gen rfl (PySem.W.codeRec_of KX hcd) (hb _ _ _ _ ?_)
  refine wpAny_newFunctionEnv_cells S.kind hkind fun env he s1 x => ?_
  subst he
  refine ⟨lim.keeps x.toInCall.keep, codeAny_func ?_⟩
  obtain ⟨t, ht, hq⟩ := hbody A outer s H vs Q E (hr.deeper _) hsp
  have I : Inv (cxOf CX P w K mg base N qual scope f cdv A outer s H E) [] (start N vs) H s1 := inv_start S hr.hd e0 hl r x
  refine wpAny_mono (ht [] s1 (start N vs) H _ I hq) (fun fl s' hs => ?_) fun e s' hs => hs
  have fin : ∀ {σ' : St} {H' : Hp} {v : V} {u : Value}, Inv (cxOf CX P w K mg base N qual scope f cdv A outer s H E) [] σ' H' s' → RelV v u → Q v H' → CE outer P w H s Q u s' :=
    fun {σ' H' v u} J rv q => ⟨v, H', J.os, J.bare, J.base, J.hok, rv, q⟩
  cases fl with
  | ret u =>
    obtain ⟨v, σ', H', J, rv, q⟩ := hs
    exact fin J rv q
  | next =>
    obtain ⟨σ', H', J, q⟩ := hs
    exact fin (v := V.non) (u := Value.none) J rfl q
  | brk =>
    obtain ⟨_, _, _, q⟩ := hs
    exact False.elim q
  | cont =>
    obtain ⟨_, _, _, q⟩ := hs
    exact False.elim q
end L2

namespace L2
open PySem PySem.Spec PyProof.Rows
section
variable {X : Cx} {x : Str} {p pos : Pos} {e : Expr} {es : List Expr} {t : TA} {id T : String} {r : List V → Hp → VK → Prop}

noncomputable def tCB (r : List V → Hp → VK → Prop) (t : TA) : TE := fun σ H Q => t σ H fun vs H1 => r vs H1 Q
theorem pe_callB (hc : CallR X (.builtin id) r) (hg : Gl X x) (hm : X.mg x = none) (hv : bootBuiltins x = some (.builtin id)) (ha : PA X (e :: es) t) (hn : x ≠ "__name__" := by decide) (hdb : (x == ("__debug__" : Str)) = false := by decide)
    (he : starEach (e :: es) X.env = (false, eval e X.env) :: starEach es X.env := by rfl) (hpl : (backTo pos (starEach es X.env)).any (·.1) = false := by rfl) : PE X (.Call (.Name x p) (e :: es) [] pos) (tCB r t) := by
  intro pins s σ H Q I h
  refine wpAny_Call_Name_kw (ld_blt I hg hm hv ?_ hn hdb)
  exact PyProof.Rows.callWith_builtin1 (thn (ha pos pins s σ H _ I h) fun us s1 ⟨vs, H1, I1, r1, q1⟩ => hc pins s1 σ H1 vs us Q I1 r1 q1) he hpl
theorem pe_callTy (hc : CallR X (.type T) r) (hg : Gl X x) (hm : X.mg x = none) (hv : bootBuiltins x = some (.type T)) (ha : PA X (e :: es) t) (hn : x ≠ "__name__" := by decide) (hdb : (x == ("__debug__" : Str)) = false := by decide)
    (he : starEach (e :: es) X.env = (false, eval e X.env) :: starEach es X.env := by rfl) (hpl : (backTo pos (starEach es X.env)).any (·.1) = false := by rfl) : PE X (.Call (.Name x p) (e :: es) [] pos) (tCB r t) := by
  intro pins s σ H Q I h
  refine wpAny_Call_Name_kw (ld_blt I hg hm hv ?_ hn hdb)
  exact PyProof.Rows.callWith_type1 (thn (ha pos pins s σ H _ I h) fun us s1 ⟨vs, H1, I1, r1, q1⟩ => hc pins s1 σ H1 vs us Q I1 r1 q1) he hpl
end
end L2

namespace HT
open PySem PyProof.Rows



section
open PySem.SeqAt
open PySem.AutoSeq1 (wpAny_loadPart')
open PySem.MeetsSeq PySem.MeetsSeq2 PySem.MeetsSeq3

end

section
variable {prog : Program} {w : World} {A : Around} {E : Value → Shared → Prop} {s : Shared}




end
end HT

namespace L2
open PySem PySem.Spec PyProof.Rows

noncomputable abbrev TO := St → Hp → (Option Int → Hp → Prop) → Prop
noncomputable def PO (X : Cx) (e : Option Expr) (t : TO) : Prop :=
  ∀ (pins : List (Addr × Obj)) (s : Shared) (σ : St) (H : Hp) (Q : Option Int → Hp → Prop), Inv X pins σ H s → t σ H Q →
    wpAny (model X.prog X.w) X.A (evalPart e X.env) (fun u s' => ∃ o H', Inv X pins σ H' s' ∧ IsPart u o ∧ Q o H') X.xe s
noncomputable def tNoPart : TO := fun _ H Q => Q none H
noncomputable def tPart (t : TE) : TO := fun σ H Q => t σ H fun x H1 => ∃ i, x = .int i ∧ Q (some i) H1


section
variable {X : Cx} {e : Expr} {te : TE} {lo hi : Option Expr} {tl th : TO} {pos p2 : Pos}

theorem po_none : PO X none tNoPart := by
  intro pins s σ H Q I h
  rw [evalPart_none]
  exact wpAny_pure ⟨none, H, I, .none, h⟩
theorem po_some (h : PE X e te) : PO X (some e) (tPart te) := by
  intro pins s σ H Q I hw
  rw [evalPart_some]
  refine thn (h pins s σ H _ I hw) fun u s1 z_ => ?_
  obtain ⟨x, H1, I1, r1, q1⟩ := z_
  obtain ⟨i, rfl, q⟩ := q1
  obtain ⟨t, rfl⟩ := r1
  exact ⟨some i, H1, I1, .int i t, q⟩

noncomputable def SlR (X : Cx) (r : V → Option Int → Option Int → Hp → VK → Prop) : Prop :=
  ∀ (pins : List (Addr × Obj)) (s : Shared) (σ : St) (H : Hp) (x : V) (v vl vu : Value) (lo hi : Option Int) (sl : Addr) (Q : VK), Inv X pins σ H s → RelV x v → s.heap.IsSliceOf sl vl vu .none → IsPart vl lo → IsPart vu hi → r x lo hi H Q →
    ∃ T id, typeLookup (.type T) "__getitem__" = pure (some (.builtin id)) ∧ s.TypeIs v T ∧ wpAny (model X.prog X.w) X.A (getItem v (.ref sl)) (EP X pins σ Q) X.xe s
noncomputable def tSl (r : V → Option Int → Option Int → Hp → VK → Prop) (te : TE) (tl th : TO) : TE := fun σ H Q => te σ H fun x H1 => tl σ H1 fun l H2 => th σ H2 fun u H3 => r x l u H3 Q
theorem pe_slice {r : V → Option Int → Option Int → Hp → VK → Prop} (hr : SlR X r) (he : PE X e te) (hl : PO X lo tl) (hu : PO X hi th) : PE X (.Subscript e (.Slice lo hi none p2) pos) (tSl r te tl th) := by
  intro pins s σ H Q I h
  refine Subscript_ (thn (he pins s σ H _ I h) fun v s1 z_ => ?_)
  obtain ⟨x, H1, I1, r1, q1⟩ := z_
  refine wpAny_Slice (thn (hl pins s1 σ H1 _ I1 q1) fun vl s2 ⟨l, H2, I2, pl, q2⟩ => thn (hu pins s2 σ H2 _ I2 q2) fun vu s3 z_ => ?_)
  obtain ⟨u, H3, I3, pu, q3⟩ := z_
  rw [evalPart_none]
  refine wpAny_pure ?_
  have I4 : Inv X pins σ H3 { s3 with heap := s3.heap.push { cls := .type "slice", data := .fields #[vl, vu, .none] } } := I3.kept (t' := s3.toks) fun b ob q => Heap.get?_push_of_some _ q
  obtain ⟨T, id, hT, ht, hg⟩ := hr pins { s3 with heap := s3.heap.push { cls := .type "slice", data := .fields #[vl, vu, .none] } } σ H3 x v vl vu l u s3.heap.objs.size Q I4 r1 (Heap.IsSliceOf.new ..) pl pu q3
  show wpAny (model X.prog X.w) X.A (subscriptTail e (.Slice lo hi none p2) v (.ref s3.heap.objs.size)) (EP X pins σ Q) X.xe { s3 with heap := s3.heap.push { cls := .type "slice", data := .fields #[vl, vu, .none] } }
  exact tail_any (ops := [.ref s3.heap.objs.size, v]) ht hT hg (by with_unfolding_all rfl)


end
end L2

namespace L2
open PySem PySem.Spec PyProof.Rows

noncomputable def ixN (n : Nat) (i : Int) : Option Nat := if 0 ≤ i then (if i < n then some i.toNat else none) else if -(n : Int) ≤ i then some (i + n).toNat else none
noncomputable def atI {α : Type} (xs : List α) (i : Int) : Option α := (ixN xs.length i).bind fun j => xs[j]?
theorem ixN_seq {n : Nat} {i : Int} {j : Nat} (h : ixN n i = some j) : seqIndex? i n = some j ∧ j < n ∧ -(n : Int) ≤ i ∧ i < n := by
  unfold ixN at h
  by_cases h0 : 0 ≤ i
  · rw [if_pos h0] at h
    by_cases h1 : i < n
    · rw [if_pos h1] at h
      have e : i.toNat = j := Option.some.inj h
      exact ⟨by rw [seqIndex_of h0 h1, e], by lia, by lia, h1⟩
    · rw [if_neg h1] at h; cases h
  · rw [if_neg h0] at h
    by_cases h1 : -(n : Int) ≤ i
    · rw [if_pos h1] at h
      have e : (i + n).toNat = j := Option.some.inj h
      exact ⟨by rw [seqIndex_neg (by lia) h1, e], by lia, h1, by lia⟩
    · rw [if_neg h1] at h; cases h
theorem atI_get {α : Type} {xs : List α} {i : Int} {v : α} (h : atI xs i = some v) : ∃ j, seqIndex? i xs.length = some j ∧ xs[j]? = some v ∧ j < xs.length ∧ -(xs.length : Int) ≤ i ∧ i < xs.length := by
  unfold atI at h
  cases e : ixN xs.length i with
  | none => rw [e] at h; cases h
  | some j =>
    rw [e] at h
    obtain ⟨h1, h2, h3, h4⟩ := ixN_seq e
    exact ⟨j, h1, h, h2, h3, h4⟩
theorem atI_nat {α : Type} {xs : List α} {j : Nat} {v : α} (h : xs[j]? = some v) : atI xs (j : Int) = some v := by
  have hj : j < xs.length := (List.getElem?_eq_some_iff.mp h).1
  have e : ixN xs.length (j : Int) = some j := by
    unfold ixN
    rw [if_pos (by lia), if_pos (by lia)]; simp
  unfold atI; rw [e]; exact h
theorem atI_last {α : Type} (xs : List α) (v : α) : atI (xs ++ [v]) (-1) = some v := by
  have hl : (xs ++ [v]).length = xs.length + 1 := by simp
  have e : ixN (xs ++ [v]).length (-1) = some xs.length := by
    unfold ixN
    rw [hl, if_neg (by decide), if_pos (by lia)]
    congr 1
    lia
  unfold atI
  rw [e]
  show (xs ++ [v])[xs.length]? = some v
  simp

noncomputable def PlainIx (b : Expr) : Prop := ∀ o i, subscripted b false o i = operate [o, i] (getItem o i)
noncomputable def IxR (X : Cx) (r : R2) : Prop :=
  ∀ (value slice : Expr) (pins : List (Addr × Obj)) (s : Shared) (σ : St) (H : Hp) (x y : V) (v u : Value) (Q : VK), Inv X pins σ H s → RelV x v → RelV y u → r x y H Q →
    subscripted slice false v u = operate [v, u] (getItem v u) → wpAny (model X.prog X.w) X.A (subscriptTail value slice v u) (EP X pins σ Q) X.xe s
noncomputable def MtR (X : Cx) (id : String) (r : V → List V → Hp → VK → Prop) : Prop :=
  ∀ (pins : List (Addr × Obj)) (s : Shared) (σ : St) (H : Hp) (x : V) (xs : List V) (v : Value) (us : List Value) (Q : VK), Inv X pins σ H s → RelV x v → Vals xs us → r x xs H Q →
    wpAny (model X.prog X.w) X.A (call (.builtin id) (v :: us)) (EP X pins σ Q) X.xe s
section
variable {X : Cx} {a b : Expr} {ta tb : TE} {pos : Pos}
theorem pe_ix {r : R2} (hr : IxR X r) (ha : PE X a ta) (hb : PE X b tb) (hs : PlainIx b) : PE X (.Subscript a b pos) (tOp r ta tb) := by
  intro pins s σ H Q I h
  exact Subscript_ (binT ha hb I h fun v u s2 x y H2 I2 rx ry q => hr a b pins s2 σ H2 x y v u Q I2 rx ry q (hs _ _))

inductive rIxLP (K : PySem.W.Frag) (x : V) (y : V) (H : Hp) (Q : VK) : Prop
  | mk (p : _) (xs : _) (i : _) (v : _) (h_0 : x = .ref p) (h_1 : y = .int i) (h_2 : SqL K H p xs) (h_3 : atI xs i = some v) (h_4 : Q v H)
noncomputable def rIxL (K : PySem.W.Frag) : R2 := fun x y H Q => rIxLP K x y H Q
inductive rIxTP (K : PySem.W.Frag) (x : V) (y : V) (H : Hp) (Q : VK) : Prop
  | mk (p : _) (xs : _) (i : _) (v : _) (h_0 : x = .ref p) (h_1 : y = .int i) (h_2 : SqT K H p xs) (h_3 : atI xs i = some v) (h_4 : Q v H)
noncomputable def rIxT (K : PySem.W.Frag) : R2 := fun x y H Q => rIxTP K x y H Q
inductive rIxSP (x : V) (y : V) (H : Hp) (Q : VK) : Prop
  | mk (z : _) (i : _) (c : _) (h_0 : x = .str z) (h_1 : y = .int i) (h_2 : z.length ≤ sizeLine) (h_3 : atI z.cps.toList i = some c) (h_4 : Q (.str ⟨#[c]⟩) H)
noncomputable def rIxS : R2 := fun x y H Q => rIxSP x y H Q
theorem ix_list : IxR X (rIxL X.K) := by
  intro value slice pins s σ H x y v u Q I rx ry h hs
  obtain ⟨p, xs, i, z, rfl, rfl, hq, he, q⟩ := h
  cases rx
  obtain ⟨t, rfl⟩ := ry
  obtain ⟨its, r, pl, hz⟩ := I.list hq
  obtain ⟨j, h1, h2, h3, h4, h5⟩ := atI_get he
  obtain ⟨w, ew, rw'⟩ := r.get h2
  have hl := r.length
  have hn := line63
  have fin : EP X pins σ Q w s := ⟨z, H, I, rw', q⟩
  by_cases h0 : 0 ≤ i
  · have hj : i.toNat = j := by
      rw [seqIndex_of h0 h5] at h1
      exact Option.some.inj h1
    exact item_listR pl.isList h0 (by lia) (by rw [hj]; simpa using ew) fin hs
  · have hj : (i + (its.toArray.size : Int)).toNat = j := by
      rw [seqIndex_neg (by lia) h4] at h1
      rw [List.size_toArray, ← hl]
      exact Option.some.inj h1
    exact subscriptTail_builtinR (x := w) pl.isList.typeIs slot_list_getitem.lookup
      (wpAny_getItem_list_neg (Q := fun r s' => r = w ∧ EP X pins σ Q r s') pl.isList (by lia) (by rw [List.size_toArray] <;> lia) (by lia) (by rw [hj]; simpa using ew) ⟨rfl, fin⟩) hs
theorem ix_tup : IxR X (rIxT X.K) := by
  intro value slice pins s σ H x y v u Q I rx ry h hs
  obtain ⟨p, xs, i, z, rfl, rfl, hq, he, q⟩ := h
  cases rx
  obtain ⟨t, rfl⟩ := ry
  obtain ⟨its, r, pl, hz⟩ := I.tuple hq
  obtain ⟨j, h1, h2, h3, h4, h5⟩ := atI_get he
  obtain ⟨w, ew, rw'⟩ := r.get h2
  have hl := r.length
  have hn := line63
  have fin : EP X pins σ Q w s := ⟨z, H, I, rw', q⟩
  exact subscriptTail_builtinR (x := w) pl.typeIs slot_tuple_getitem.lookup
    (getItem_tuple (j := j) (Q := fun r s' => r = w ∧ EP X pins σ Q r s') pl (by lia) (by lia) (by rw [List.size_toArray, ← hl]; exact h1) (by simpa using ew) ⟨rfl, fin⟩) hs
theorem ix_str : IxR X rIxS := by
  intro value slice pins s σ H x y v u Q I rx ry h hs
  obtain ⟨z, i, c, rfl, rfl, hz, he, q⟩ := h
  obtain ⟨t, rfl⟩ := rx
  obtain ⟨t', rfl⟩ := ry
  obtain ⟨j, h1, h2, h3, h4, h5⟩ := atI_get he
  have hl : z.cps.toList.length = z.length := by simp [Str.length]
  rw [hl] at h1 h4 h5
  have hn := line63
  exact tail_any (typeIs_str s z t) slot_str_getitem.lookup (getItem_str (c := c) (by
    have e1 : decide (i < -(2 ^ 63 : Int)) = false := decide_eq_false (by lia)
    have e2 : decide (i ≥ 2 ^ 63) = false := decide_eq_false (by lia)
    rw [e1, e2, Bool.or_false]) (by rw [h1]; simpa using h2) ⟨.str ⟨#[c]⟩, H, I.tok _, ⟨_, rfl⟩, q⟩) hs

theorem mapSeq_set (its : List Value) (n j : Nat) (u : Value) : Obj.mapSeq (·.setIfInBounds j u) { cls := .type "list", data := .seq its.toArray n } = { cls := .type "list", data := .seq (its.set j u).toArray n } := by
  simp [Obj.mapSeq]
theorem Inv.lst {pins : List (Addr × Obj)} {σ : St} {H : Hp} {s : Shared} {p : Addr} {xs : List V} (I : Inv X pins σ H s) (h : H p = some (.lst xs)) :
    ∃ (its : List Value) (n : Nat), Vals xs its ∧ s.heap.get? p = some { cls := .type "list", data := .seq its.toArray n } ∧ xs.length ≤ sizeLine := by
  obtain ⟨z, its, n, r, e⟩ := I.hok p _ h
  exact ⟨its, n, r, e, z⟩
theorem Inv.lstUpd {pins : List (Addr × Obj)} {σ : St} {H : Hp} {s : Shared} {p : Addr} {xs ys : List V} {its its' : List Value} {n n' : Nat} {f : Obj → Obj} (I : Inv X pins σ H s) (h : H p = some (.lst xs))
    (ho : s.heap.get? p = some { cls := .type "list", data := .seq its.toArray n }) (hf : f { cls := .type "list", data := .seq its.toArray n } = { cls := .type "list", data := .seq its'.toArray n' }) (r : Vals ys its') (hz : ys.length ≤ sizeLine) (t : Nat) :
    Inv X pins σ (upd H p (.lst ys)) { s with heap := s.heap.update p f, toks := t } := by
  have e : (s.heap.update p f).get? p = some { cls := .type "list", data := .seq its'.toArray n' } := by
    rw [Heap.get?_update_self f ho (by rw [hf] <;> rfl), hf]
  refine I.write (x := p) (e := p) (by rw [h]; trivial) (.inl rfl) (fun b u hb q => (Heap.get?_update_other _ _ (Ne.symm hb)).trans q) ⟨_, e⟩ ?_
  exact ⟨hz, its', n', r, e⟩
inductive rSetLP (o : V) (i : V) (v : V) (H : Hp) (Q : (Hp → Prop)) : Prop
  | mk (p : _) (xs : _) (k : _) (j : _) (h_0 : o = .ref p) (h_1 : i = .int k) (h_2 : H p = some (.lst xs)) (h_3 : ixN xs.length k = some j) (h_4 : Q (upd H p (.lst (xs.set j v))))
noncomputable def rSetL : V → V → V → Hp → (Hp → Prop) → Prop := fun o i v H Q => rSetLP o i v H Q
theorem set_list : PSet X rSetL := by
  intro pins s σ H o i v ov iv u Q I ro ri rv h
  obtain ⟨p, xs, k, j, rfl, rfl, hp, hj, q⟩ := h
  cases ro
  obtain ⟨t, rfl⟩ := ri
  obtain ⟨its, n, r, ho, hz⟩ := I.lst hp
  obtain ⟨h1, h2, h3, h4⟩ := ixN_seq hj
  have hl := r.length
  have hn := line63
  have I' : Inv X pins σ (upd H p (.lst (xs.set j v))) { s with heap := s.heap.update p (Obj.mapSeq (·.setIfInBounds j u)) } :=
    I.lstUpd hp ho (mapSeq_set its n j u) (r.set rv j) (by rw [List.length_set]; exact hz) s.toks
  by_cases h0 : 0 ≤ k
  · have hk : k.toNat = j := by
      rw [seqIndex_of h0 h4] at h1
      exact Option.some.inj h1
    exact PySem.W.ki_setAt ho h0 (by lia) (by rw [List.size_toArray, ← hl]; exact h4) (by rw [hk]; exact ⟨_, I', q⟩)
  · have hk : (k + (its.toArray.size : Int)).toNat = j := by
      rw [seqIndex_neg (by lia) h3] at h1
      rw [List.size_toArray, ← hl]
      exact Option.some.inj h1
    exact PySem.W.ki_setBack ho (by lia) (by rw [List.size_toArray, ← hl]; exact h3) (by lia) (by rw [hk]; exact ⟨_, I', q⟩)


noncomputable def flatV : V → Bool
  | .non => true
  | .bl _ => true
  | .int _ => true
  | .str _ => true
  | _ => false
noncomputable def eqV : V → V → Bool
  | .non, .non => true
  | .bl a, .bl b => a == b
  | .bl a, .int b => (if a then 1 else 0) == b
  | .int a, .bl b => a == (if b then 1 else 0)
  | .int a, .int b => a == b
  | .str a, .str b => a == b
  | _, _ => false
theorem eqAt_V {A : Around} {s : Shared} {y x : V} {u v : Value} (ry : RelV y u) (rx : RelV x v) (fy : flatV y = true) (fx : flatV x = true) : SeqAt.EqAt A s u v (eqV y x) := by
  cases y with
  | non =>
    cases ry
    cases x with
    | non => cases rx; exact SeqAt.EqAt.same _
    | bl b => cases rx; exact SeqAt.EqAt.none_bool b
    | int b => obtain ⟨t, rfl⟩ := rx; exact SeqAt.EqAt.none_int b t
    | str b => obtain ⟨t, rfl⟩ := rx; exact SeqAt.EqAt.none_str b t
    | _ => exact absurd (show false = true from fx) Bool.false_ne_true
  | bl a =>
    cases ry
    cases x with
    | non => cases rx; exact SeqAt.EqAt.bool_none a
    | bl b => cases rx; exact SeqAt.EqAt.bool_bool a b
    | int b => obtain ⟨t, rfl⟩ := rx; exact SeqAt.EqAt.bool_int a b t
    | str b => obtain ⟨t, rfl⟩ := rx; exact SeqAt.EqAt.bool_str a b t
    | _ => exact absurd (show false = true from fx) Bool.false_ne_true
  | int a =>
    obtain ⟨t', rfl⟩ := ry
    cases x with
    | non => cases rx; exact SeqAt.EqAt.int_none a t'
    | bl b => cases rx; exact SeqAt.EqAt.int_bool a t' b
    | int b => obtain ⟨t, rfl⟩ := rx; exact SeqAt.EqAt.int_int a t' b t
    | str b => obtain ⟨t, rfl⟩ := rx; exact SeqAt.EqAt.int_str a t' b t
    | _ => exact absurd (show false = true from fx) Bool.false_ne_true
  | str a =>
    obtain ⟨t', rfl⟩ := ry
    cases x with
    | non => cases rx; exact SeqAt.EqAt.str_none a t'
    | bl b => cases rx; exact SeqAt.EqAt.str_bool a t' b
    | int b => obtain ⟨t, rfl⟩ := rx; exact SeqAt.EqAt.str_int a t' b t
    | str b => obtain ⟨t, rfl⟩ := rx; exact SeqAt.EqAt.str_str a t' b t
    | _ => exact absurd (show false = true from fx) Bool.false_ne_true
  | _ => exact absurd (show false = true from fy) Bool.false_ne_true

theorem call_len_seq : CallR X (.builtin "len") (fun xs H Q => ∃ p ys, xs = [.ref p] ∧ (SqL X.K H p ys ∨ SqT X.K H p ys) ∧ Q (.int ys.length) H) := by
  intro pins s σ H xs us Q I r h
  obtain ⟨p, ys, rfl, hq, q⟩ := h
  obtain ⟨u, rfl, rx⟩ := vals1 r
  cases rx
  have hn := line63
  rcases hq with hq | hq
  · obtain ⟨its, r', pl, hz⟩ := I.list hq
    have hlen := r'.length
    exact Calls.call_len_list pl.isList (by simp only [List.size_toArray] <;> lia) ⟨.int ys.length, H, I.tok _, ⟨s.toks + 1, by rw [List.size_toArray, hlen]⟩, q⟩
  · obtain ⟨its, r', pl, hz⟩ := I.tuple hq
    have hlen := r'.length
    exact len_tuple pl (by simp only [List.size_toArray] <;> lia) ⟨.int ys.length, H, I.tok _, ⟨s.toks + 1, by rw [List.size_toArray, hlen]⟩, q⟩
theorem call_len_str : CallR X (.builtin "len") (fun xs H Q => ∃ z, xs = [.str z] ∧ z.length ≤ sizeLine ∧ Q (.int z.length) H) := by
  intro pins s σ H xs us Q I r h
  obtain ⟨z, rfl, hz, q⟩ := h
  obtain ⟨u, rfl, t, rfl⟩ := vals1 r
  have hn := line63
  exact len_str (by lia) ⟨.int z.length, H, I.tok _, ⟨_, rfl⟩, q⟩
theorem call_list_of : CallR X (.type "list") (fun xs H Q => ∃ p ys, xs = [.ref p] ∧ (SqL X.K H p ys ∨ SqT X.K H p ys) ∧ ∀ l, H l = none → Q (.ref l) (upd H l (.lst ys))) := by
  intro pins s σ H xs us Q I r h
  obtain ⟨p, ys, rfl, hq, q⟩ := h
  obtain ⟨u, rfl, rx⟩ := vals1 r
  cases rx
  have fin : ∀ (its : List Value), Vals ys its → ys.length ≤ sizeLine → ∀ (h' : Heap) (c' : Nat), (∀ b o', s.heap.get? b = some o' → h'.get? b = some o') →
      h'.get? s.heap.objs.size = some { cls := .type "list", dict := none, data := .seq its.toArray c', slots := #[] } → EP X pins σ Q (.ref s.heap.objs.size) { s with heap := h' } := fun its r' hz h' c' kp e =>
    ⟨.ref s.heap.objs.size, _, I.laid (t' := s.toks) kp (Nat.le_refl _) (show ObjOk X.prog X.w _ h' _ (.lst ys) from ⟨hz, its, c', r', e⟩), rfl, q _ (I.hok.fresh (Nat.le_refl _))⟩
  rcases hq with hq | hq
  · obtain ⟨its, r', pl, hz⟩ := I.list hq
    have hlen := r'.length
    obtain ⟨o, ho, hc, n, hd⟩ := pl.isList
    exact call_list_seq p (.inl rfl) ho hc hd (fun h' c' kp e => fin its r' hz h' c' kp e) (by simp only [List.size_toArray] <;> lia)
  · obtain ⟨its, r', pl, hz⟩ := I.tuple hq
    have hlen := r'.length
    obtain ⟨o, ho, hc, n, hd⟩ := pl
    exact call_list_seq p (.inr rfl) ho hc hd (fun h' c' kp e => fin its r' hz h' c' kp e) (by simp only [List.size_toArray] <;> lia)

noncomputable def tyV (K : PySem.W.Frag) (T : String) (x : V) (H : Hp) : Prop := match x with
  | .str _ => T = "str"
  | .int _ => T = "int"
  | .ref p => (T = "list" ∧ ∃ xs, SqL K H p xs) ∨ (T = "tuple" ∧ ∃ o, K.lookup p = some o ∧ o.cls = .type "tuple" ∧ o.dict = none) ∨
      (T = "dict" ∧ ((∃ kvs, H p = some (.dK kvs)) ∨ ∃ kvs, H p = some (.dT kvs))) ∨ (T = "set" ∧ ∃ S n, H p = some (.set S n))
  | _ => False
theorem tyV_is {pins : List (Addr × Obj)} {σ : St} {H : Hp} {s : Shared} {T : String} {x : V} {v : Value} (I : Inv X pins σ H s) (r : RelV x v) (ty : tyV X.K T x H) :
    s.TypeIs v T ∧ ∀ a, v = .ref a → ∃ ob, s.heap.get? a = some ob ∧ ob.dict = none := by
  cases x with
  | str z =>
    obtain ⟨t, rfl⟩ := r
    cases (show T = "str" from ty)
    exact ⟨typeIs_str s z t, fun _ e => nomatch e⟩
  | int i =>
    obtain ⟨t, rfl⟩ := r
    cases (show T = "int" from ty)
    exact ⟨typeIs_int s i t, fun _ e => nomatch e⟩
  | ref p =>
    cases r
    rcases ty with ⟨rfl, xs, hq⟩ | ⟨rfl, o, hk, hc, hd⟩ | ⟨rfl, hk⟩ | ⟨rfl, S, n, hk⟩
    · obtain ⟨its, _, pl, _⟩ := I.list hq
      refine ⟨pl.isList.typeIs, fun a e => ?_⟩
      cases e
      obtain ⟨o, n, e, c, hd, _⟩ := pl
      exact ⟨o, e, hd⟩
    · refine ⟨⟨o, I.kIn p o hk, hc⟩, fun a e => ?_⟩
      cases e
      exact ⟨o, I.kIn _ o hk, hd⟩
    · have z : ∃ o, s.heap.get? p = some o ∧ o.ExactDict := by
        rcases hk with ⟨kvs, hk⟩ | ⟨kvs, hk⟩
        · obtain ⟨_, _, _, _, o, _, _, e, ex, _⟩ := I.hok p _ hk
          exact ⟨o, e, ex⟩
        · obtain ⟨_, _, _, _, o, _, _, e, ex, _⟩ := I.hok p _ hk
          exact ⟨o, e, ex⟩
      obtain ⟨o, e, ex⟩ := z
      refine ⟨⟨o, e, ex.1⟩, fun a e2 => ?_⟩
      cases e2
      exact ⟨o, e, ex.2.1⟩
    · obtain ⟨o, _, _, _, e, ex, _⟩ := I.hok p _ hk
      refine ⟨⟨o, e, ex.1⟩, fun a e2 => ?_⟩
      cases e2
      exact ⟨o, e, ex.2.1⟩
  | _ => exact False.elim ty
noncomputable def tBM0 (K : PySem.W.Frag) (T : String) (r : V → List V → Hp → VK → Prop) (to : TE) : TE := fun σ H Q => to σ H fun x H1 => tyV K T x H1 ∧ r x [] H1 Q
noncomputable def tBM (K : PySem.W.Frag) (T : String) (r : V → List V → Hp → VK → Prop) (to : TE) (t : TA) : TE := fun σ H Q => to σ H fun x H1 => tyV K T x H1 ∧ t σ H1 fun xs H2 => r x xs H2 Q
variable {o e : Expr} {es : List Expr} {to : TE} {t : TA} {name : Str} {apos cpos : Pos} {T id : String} {r : V → List V → Hp → VK → Prop}
theorem pe_bm0 (pa : PlainAttrs T) (slot : Slot T name id) (hty : typeOf (.builtin id) = pure (.type "method_descriptor")) (hm : MtR X id r) (ho : PE X o to)
    (hbase : attributeBase o name X.env (eval o X.env) = eval o X.env := by rfl) (hline : (apos.endLine == cpos.line) = true := by rfl) : PE X (.Call (.Attribute o name apos) [] [] cpos) (tBM0 X.K T r to) := by
  intro pins s σ H Q I h
  refine wpAny_Call_method0_late hbase hline (thn (ho pins s σ H _ I h) fun v s1 z_ => ?_)
  obtain ⟨x, H1, I1, r1, ty, q1⟩ := z_
  obtain ⟨h1, h2⟩ := tyV_is I1 r1 ty
  exact ⟨T, id, pa, slot, hty, h1, h2, Calls.callWith_builtin rfl (PySem.evalArgs_none (hm pins s1 σ H1 x [] v [] Q I1 r1 .nil q1))⟩
theorem pe_bm (pa : PlainAttrs T) (slot : Slot T name id) (hty : typeOf (.builtin id) = pure (.type "method_descriptor")) (hm : MtR X id r) (ho : PE X o to) (ha : PA X (e :: es) t)
    (hbase : attributeBase o name X.env (eval o X.env) = eval o X.env := by rfl)
    (hfew : ((backTo cpos (starEach (e :: es) X.env)).all (fun x => !x.1) && (backToKw cpos (keywordEach [] X.env)).all (fun x => x.1.isSome)
      && decide ((e :: es).length + ([] : List Keyword).length + (if ([] : List Keyword).isEmpty then 0 else 1) < 30)) = true := by rfl)
    (hline : (apos.endLine == cpos.line) = true := by rfl) (hs : starEach (e :: es) X.env = (false, eval e X.env) :: starEach es X.env := by rfl) (hplain : (backTo cpos (starEach es X.env)).any (·.1) = false := by rfl) :
    PE X (.Call (.Attribute o name apos) (e :: es) [] cpos) (tBM X.K T r to t) := by
  intro pins s σ H Q I h
  refine wpAny_Call_method_late hbase hfew hline rfl (thn (ho pins s σ H _ I h) fun v s1 z_ => ?_)
  obtain ⟨x, H1, I1, r1, ty, q1⟩ := z_
  obtain ⟨h1, h2⟩ := tyV_is I1 r1 ty
  refine ⟨T, id, pa, slot, hty, h1, h2, ?_⟩
  have hA := ha cpos pins s1 σ H1 _ I1 q1
  rw [hs] at hA ⊢
  refine Calls.callWith_builtin (by show (false || (backTo cpos (starEach es X.env)).any (·.1)) = false; rw [hplain] <;> rfl) (Calls.evalArgs_plain ?_)
  exact thn hA fun us s2 ⟨vs, H2, I2, r2, q2⟩ => hm pins s2 σ H2 x vs v us Q I2 r1 r2 q2
/- xs.append(e), list.index on a module's tuple .. are MtR facts of 06m -/
end
end L2

namespace L2
open PySem PySem.Spec PyProof.Rows

noncomputable def MtM (X : Cx) (id : String) (r : V → List V → Hp → VK → Prop) : Prop :=
  ∀ (pins : List (Addr × Obj)) (s : Shared) (σ : St) (H : Hp) (x : V) (xs : List V) (v : Value) (us : List Value) (Q : VK), Inv X pins σ H s → RelV x v → Vals xs us → r x xs H Q →
    wpAny (model X.prog X.w) X.A (call (.builtin id) (v :: us)) (EP X pins σ Q) X.xe s

theorem Vals.one {x : V} {us : List Value} (h : Vals [x] us) : ∃ u, us = [u] ∧ RelV x u := by
  cases h with
  | cons r t => cases t; exact ⟨_, rfl, r⟩
theorem Vals.zero : ∀ {us : List Value}, Vals [] us → us = []
  | _, .nil => rfl
theorem Vals.dropLast {xs : List V} {us : List Value} (h : Vals xs us) : Vals xs.dropLast us.dropLast := by
  induction h with
  | nil => exact .nil
  | cons r t ih =>
    cases t with
    | nil => exact .nil
    | cons q t' => exact .cons r ih
theorem Vals.eraseIdx : ∀ {xs : List V} {us : List Value} (i : Nat), Vals xs us → Vals (xs.eraseIdx i) (us.eraseIdx i)
  | _, _, _, .nil => .nil
  | _, _, 0, .cons _ t => t
  | _, _, i + 1, .cons r t => .cons r (Vals.eraseIdx i t)
theorem erase_last {α : Type} (l : List α) : l.eraseIdx (l.length - 1) = l.dropLast := by
  induction l with
  | nil => rfl
  | cons a r ih =>
    cases r with
    | nil => rfl
    | cons b r =>
      have e : (a :: b :: r).length - 1 = ((b :: r).length - 1) + 1 := by
        have h1 : (a :: b :: r).length = r.length + 2 := rfl
        have h2 : (b :: r).length = r.length + 1 := rfl
        lia
      rw [e, List.eraseIdx_cons_succ, ih]
      all_goals rfl
theorem len_erase {α : Type} : ∀ (l : List α) (i : Nat), (l.eraseIdx i).length ≤ l.length
  | [], _ => Nat.le_refl _
  | _ :: _, 0 => Nat.le_succ _
  | _ :: r, i + 1 => Nat.succ_le_succ (len_erase r i)

section
variable {X : Cx} {pins : List (Addr × Obj)} {σ : St} {H : Hp} {s : Shared} {l b : Addr} {xs ys zs : List V}

theorem Inv.lset {its its' : List Value} {n : Nat} {f : Array Value → Array Value} {t' : Nat} (I : Inv X pins σ H s) (hH : H l = some (.lst xs))
    (e : s.heap.get? l = some { cls := .type "list", data := .seq its.toArray n }) (hf : f its.toArray = its'.toArray) (hv : Vals ys its') (hz : ys.length ≤ sizeLine) :
    Inv X pins σ (upd H l (.lst ys)) { s with heap := s.heap.update l (Obj.mapSeq f), toks := t' } := by
  have q := PySem.IsL.update e f
  rw [hf] at q
  refine I.write (x := l) (e := l) (by rw [hH]; exact trivial) (.inl rfl) (fun b' u hb hu => (Heap.get?_update_other s.heap (Obj.mapSeq f) (Ne.symm hb)).trans hu) ⟨_, q⟩ ?_
  exact ⟨hz, its', _, hv, q⟩
theorem Inv.lstM (I : Inv X pins σ H s) (hH : H l = some (.lst xs)) : xs.length ≤ sizeLine ∧ ∃ (its : List Value) (n : Nat), Vals xs its ∧ xs.length = its.length ∧ s.heap.get? l = some { cls := .type "list", data := .seq its.toArray n } := by
  obtain ⟨z, its, n, r, e⟩ := I.hok l _ hH
  exact ⟨z, its, n, r, r.length, e⟩

end

section
variable {X : Cx}

inductive rAppendP (x : V) (vs : List V) (H : Hp) (Q : VK) : Prop
  | mk (l : _) (xs : _) (y : _) (h_0 : x = .ref l) (h_1 : vs = [y]) (h_2 : H l = some (.lst xs)) (h_3 : xs.length < sizeLine) (h_4 : Q .non (upd H l (.lst (xs ++ [y]))))
noncomputable def rAppend : V → List V → Hp → VK → Prop := fun x vs H Q => rAppendP x vs H Q
theorem mt_append : MtM X "list.append" rAppend := by
  intro pins s σ H x vs v us Q I rx rv h
  obtain ⟨l, xs, y, rfl, rfl, hH, hz, q⟩ := h
  cases rx
  obtain ⟨u, rfl, ru⟩ := rv.one
  obtain ⟨z, its, n, r, hl, e⟩ := I.lstM hH
  refine call_meets F.slot_list_append ⟨_, e, rfl⟩ F.entry_list_append (F.args_list_append_2 _ _) (PySem.list_append l its.toArray n u (by rw [List.size_toArray]; lia)) ⟨e, ?_⟩
  refine ⟨.non, _, I.lset (its' := its ++ [u]) hH e (by simp) (r.append (.cons ru .nil)) ?_, rfl, q⟩
  rw [List.length_append, List.length_singleton]
  lia


inductive rPopP (x : V) (vs : List V) (H : Hp) (Q : VK) : Prop
  | mk (l : _) (xs : _) (y : _) (h_0 : x = .ref l) (h_1 : vs = []) (h_2 : H l = some (.lst xs)) (h_3 : xs[xs.length - 1]? = some y) (h_4 : Q y (upd H l (.lst xs.dropLast)))
noncomputable def rPop : V → List V → Hp → VK → Prop := fun x vs H Q => rPopP x vs H Q
theorem mt_pop : MtM X "list.pop" rPop := by
  intro pins s σ H x vs v us Q I rx rv h
  obtain ⟨l, xs, y, rfl, rfl, hH, hy, q⟩ := h
  cases rx
  have hus := rv.zero
  subst hus
  obtain ⟨z, its, n, r, hl, e⟩ := I.lstM hH
  obtain ⟨u, hu, ru⟩ := r.get hy
  have hy' : its.toArray[its.toArray.size - 1]? = some u := by
    show its.toArray[its.length - 1]? = some u
    rw [← Array.getElem?_toList, ← hl]
    exact hu
  refine call_meets F.slot_list_pop ⟨_, e, rfl⟩ F.entry_list_pop (F.args_list_pop_1 _) (MeetsSeq.list_pop_last l its.toArray n u hy' (by rw [List.size_toArray]; lia)) ⟨e, ?_⟩
  refine ⟨y, _, I.lset (its' := its.dropLast) hH e ?_ r.dropLast ?_, ru, q⟩
  · show its.toArray.eraseIdxIfInBounds (its.toArray.size - 1) = its.dropLast.toArray
    rw [List.size_toArray, List.eraseIdxIfInBounds_toArray, erase_last]
  · rw [List.length_dropLast]
    lia

inductive rPopAtP (x : V) (vs : List V) (H : Hp) (Q : VK) : Prop
  | mk (l : _) (xs : _) (i : _) (k : _) (y : _) (h_0 : x = .ref l) (h_1 : vs = [.int i]) (h_2 : H l = some (.lst xs)) (h_3 : -(2 ^ 63) ≤ i) (h_4 : i < 2 ^ 63) (h_5 : seqIndex? i xs.length = some k) (h_6 : xs[k]? = some y) (h_7 : Q y (upd H l (.lst (xs.eraseIdx k))))
noncomputable def rPopAt : V → List V → Hp → VK → Prop := fun x vs H Q => rPopAtP x vs H Q
theorem mt_popAt : MtM X "list.pop" rPopAt := by
  intro pins s σ H x vs v us Q I rx rv h
  obtain ⟨l, xs, i, k, y, rfl, rfl, hH, h1, h2, hk, hy, q⟩ := h
  cases rx
  obtain ⟨u, rfl, ru⟩ := rv.one
  obtain ⟨t, rfl⟩ := ru
  obtain ⟨z, its, n, r, hl, e⟩ := I.lstM hH
  obtain ⟨w, hw, rw'⟩ := r.get hy
  refine call_meets F.slot_list_pop ⟨_, e, rfl⟩ F.entry_list_pop (F.args_list_pop_2 _ _)
    (MeetsSeq.list_pop_at l its.toArray n i t k w (fitsIndex_both h1 h2) (by rw [List.size_toArray, ← hl]; exact hk) (by rw [← Array.getElem?_toList]; exact hw) (by rw [List.size_toArray]; lia)) ⟨e, ?_⟩
  refine ⟨y, _, I.lset (its' := its.eraseIdx k) hH e ?_ (r.eraseIdx k) ?_, rw', q⟩
  · show its.toArray.eraseIdxIfInBounds k = (its.eraseIdx k).toArray
    rw [List.eraseIdxIfInBounds_toArray]
  · have := len_erase xs k
    lia




end

section
variable {prog : Program} {w : World} {A : Around} {E : Value → Shared → Prop} {s : Shared}
set_option maxRecDepth 100000 in
end

section
variable {X : Cx}
end
end L2

namespace L2
open PySem PySem.Spec PyProof.Rows

section
variable {κ : Type} [DecidableEq κ]
noncomputable def valV (kvs : List (κ × V)) (k : κ) : Option V := (kvs.find? fun kv => decide (kv.1 = k)).map (·.2)
noncomputable def putK (kvs : List (κ × V)) (k : κ) (v : V) : List (κ × V) :=
  if (kvs.any fun kv => decide (kv.1 = k)) = true then kvs.map (fun kv => if kv.1 = k then (kv.1, v) else kv) else kvs ++ [(k, v)]

theorem valV_pos {p : κ × V} {r : List (κ × V)} {k : κ} (e : p.1 = k) : valV (p :: r) k = some p.2 := by simp [valV, List.find?_cons, e]
theorem valV_neg {p : κ × V} {r : List (κ × V)} {k : κ} (e : ¬ p.1 = k) : valV (p :: r) k = valV r k := by simp [valV, List.find?_cons, e]
theorem valV_any (k : κ) : ∀ kvs : List (κ × V), (kvs.any fun kv => decide (kv.1 = k)) = (valV kvs k).isSome
  | [] => rfl
  | p :: r => by
    rw [List.any_cons]
    by_cases e : p.1 = k
    · simp only [valV_pos e, decide_eq_true e, Bool.true_or, Option.isSome_some]
    · rw [valV_neg e, decide_eq_false e, Bool.false_or]; exact valV_any k r
theorem length_putK (kvs : List (κ × V)) (k : κ) (v : V) : (putK kvs k v).length ≤ kvs.length + 1 := by
  unfold putK
  split
  · rw [List.length_map]; lia
  · rw [List.length_append, List.length_cons, List.length_nil]; lia
theorem putK_new {kvs : List (κ × V)} {k : κ} (v : V) (h : valV kvs k = none) : putK kvs k v = kvs ++ [(k, v)] := by
  unfold putK
  rw [valV_any, h]
  exact if_neg (by decide)

theorem RelO.isSome_eq {o : Option V} {u : Option Value} (r : RelO o u) : o.isSome = u.isSome := by
  cases o with
  | none => cases u with
    | none => rfl
    | some _ => exact (show False from r).elim
  | some _ => cases u with
    | none => exact (show False from r).elim
    | some _ => rfl

theorem KV.val {kvs : List (κ × V)} {vs : List (κ × Value)} (r : KV kvs vs) (k : κ) : RelO (valV kvs k) (valueAt vs k) := by
  unfold KV at r
  induction r with
  | nil => exact True.intro
  | @cons p q ps qs h t ih =>
    obtain ⟨h1, h2⟩ := h
    by_cases e : p.1 = k
    · have e' : q.1 = k := h1.symm.trans e
      have b : valueAt (q :: qs) k = some q.2 := by simp [valueAt, List.find?_cons, e']
      rw [valV_pos e, b]; exact h2
    · have e' : ¬ q.1 = k := fun z => e (h1.trans z)
      have b : valueAt (q :: qs) k = valueAt qs k := by simp [valueAt, List.find?_cons, e']
      rw [valV_neg e, b]; exact ih
theorem KV.any {kvs : List (κ × V)} {vs : List (κ × Value)} (r : KV kvs vs) (k : κ) : (kvs.any fun kv => decide (kv.1 = k)) = vs.any fun kv => decide (kv.1 = k) := by
  unfold KV at r
  induction r with
  | nil => rfl
  | cons h t ih => rw [List.any_cons, List.any_cons, ih, h.1]
theorem KV.repl {kvs : List (κ × V)} {vs : List (κ × Value)} (r : KV kvs vs) (k : κ) {y : V} {u : Value} (ry : RelV y u) :
    KV (kvs.map fun kv => if kv.1 = k then (kv.1, y) else kv) (vs.map fun kv => if kv.1 = k then (kv.1, u) else kv) := by
  unfold KV at r ⊢
  induction r with
  | nil => exact .nil
  | @cons p q ps qs h t ih =>
    rw [List.map_cons, List.map_cons]
    refine .cons ?_ ih
    obtain ⟨h1, h2⟩ := h
    by_cases e : p.1 = k
    · rw [if_pos e, if_pos (h1.symm.trans e)]; exact ⟨h1, ry⟩
    · rw [if_neg e, if_neg (fun z => e (h1.trans z))]; exact ⟨h1, h2⟩
theorem KV.put {kvs : List (κ × V)} {vs : List (κ × Value)} (r : KV kvs vs) (k : κ) {y : V} {u : Value} (ry : RelV y u) : KV (putK kvs k y) (stored vs k u) := by
  unfold putK stored
  rw [r.any k]
  by_cases e : (vs.any fun kv => decide (kv.1 = k)) = true
  · rw [if_pos e, if_pos e]; exact r.repl k ry
  · rw [if_neg e, if_neg e]; exact Paired.snoc r ⟨rfl, ry⟩
theorem KV.length {kvs : List (κ × V)} {vs : List (κ × Value)} (r : KV kvs vs) : kvs.length = vs.length := Paired.length r
end


theorem kV_is {P : Program} {w : World} {k : Key} {u : Value} (r : RelV (kV k) u) : (mixKind P w).is k u = true := by
  cases k with
  | inl i => obtain ⟨t, e⟩ := (show ∃ t, u = Value.int i t from r); subst e; exact mixKind_int P w i t
  | inr x => obtain ⟨t, e⟩ := (show ∃ t, u = Value.str x t from r); subst e; exact mixKind_str P w x t
theorem items_are {P : Program} {w : World} : ∀ {ks : List Key} {us : List Value}, Vals (ks.map kV) us → ItemsAre (mixKind P w) ks us
  | [], _, r => by rw [List.map_nil] at r; cases r; exact .nil
  | k :: ks, _, r => by
    rw [List.map_cons] at r
    cases r with
    | cons h t => exact .cons (kV_is h) (items_are t)

noncomputable abbrev KT (H : Hp) : List (List Key × V) → List (List Key × Addr × Value) → Prop := Paired fun p q => p.1 = q.1 ∧ H q.2.1 = some (.tup (p.1.map kV)) ∧ RelV p.2 q.2.2
theorem KT.val {H : Hp} {kvs : List (List Key × V)} {xs : List (List Key × Addr × Value)} (r : KT H kvs xs) (k : List Key) : RelO (valV kvs k) ((atKey xs k).map (·.2)) := by
  induction r with
  | nil => exact True.intro
  | @cons p q ps qs h t ih =>
    obtain ⟨h1, _, h2⟩ := h
    by_cases e : p.1 = k
    · have e' : q.1 = k := h1.symm.trans e
      have b : atKey (q :: qs) k = some q.2 := by simp [atKey, List.find?_cons, e']
      rw [valV_pos e, b]; exact h2
    · have e' : ¬ q.1 = k := fun z => e (h1.trans z)
      have b : atKey (q :: qs) k = atKey qs k := by simp [atKey, List.find?_cons, e']
      rw [valV_neg e, b]; exact ih
theorem KT.repl {H : Hp} {kvs : List (List Key × V)} {xs : List (List Key × Addr × Value)} (r : KT H kvs xs) (k : List Key) {y : V} {u : Value} (ry : RelV y u) :
    KT H (kvs.map fun kv => if kv.1 = k then (kv.1, y) else kv) (xs.map (putAt k u)) := by
  induction r with
  | nil => exact .nil
  | @cons p q ps qs h t ih =>
    rw [List.map_cons, List.map_cons]
    refine .cons ?_ ih
    obtain ⟨h1, h2, h3⟩ := h
    unfold putAt
    by_cases e : p.1 = k
    · rw [if_pos e, if_pos (h1.symm.trans e)]; exact ⟨h1, h2, ry⟩
    · rw [if_neg e, if_neg (fun z => e (h1.trans z))]; exact ⟨h1, h2, h3⟩
theorem KT.put {H : Hp} {kvs : List (List Key × V)} {xs : List (List Key × Addr × Value)} (r : KT H kvs xs) (k : List Key) {b : Addr} {y : V} {u : Value} (hb : H b = some (.tup (k.map kV))) (ry : RelV y u) :
    KT H (putK kvs k y) (storedH xs k b u) := by
  have e : (kvs.any fun kv => decide (kv.1 = k)) = (atKey xs k).isSome := by
    rw [valV_any, (r.val k).isSome_eq, Option.isSome_map]
  unfold putK storedH
  rw [e]
  by_cases q : (atKey xs k).isSome = true
  · rw [if_pos q, if_pos q]; exact r.repl k ry
  · rw [if_neg q, if_neg q]; exact Paired.snoc r ⟨rfl, hb, ry⟩
theorem KT.keeps {H H' : Hp} {kvs : List (List Key × V)} {xs : List (List Key × Addr × Value)} (r : KT H kvs xs) (ht : ∀ b ys, H b = some (.tup ys) → H' b = some (.tup ys)) : KT H' kvs xs :=
  Paired.mapP r fun _ _ z => ⟨z.1, ht _ _ z.2.1, z.2.2⟩

section
variable {P : Program} {w : World} {H : Hp} {h : Heap} {a : Addr}
theorem rd_of {u : HO} (ok : HOk P w H h) (e : Rd H a u) : ObjOk P w H h a u := e.ok ok
theorem dk_rd {kvs : List (Key × V)} (ok : HOk P w H h) (e : Rd H a (.dK kvs)) : kvs.length ≤ sizeLine ∧ (a == sysModules) = false ∧ ∃ vs, KV kvs vs ∧ h.DictOf (mixKind P w) a vs :=
  show ObjOk P w H h a (.dK kvs) from rd_of ok e
theorem dk_of {kvs : List (Key × V)} (ok : HOk P w H h) (e : H a = some (.dK kvs)) : kvs.length ≤ sizeLine ∧ (a == sysModules) = false ∧ ∃ vs, KV kvs vs ∧ h.DictOf (mixKind P w) a vs := dk_rd ok (.inl e)
theorem key_of {ks : List Key} (ok : HOk P w H h) (e : H a = some (.tup (ks.map kV))) : (tupleKind (mixKind P w)).is h ks a := by
  obtain ⟨_, its, r, o, h1, h2, n, h3⟩ := (show ObjOk P w H h a (.tup (ks.map kV)) from ok a _ e)
  exact ⟨o, its.toArray, n, h1, h2, h3, by simpa using items_are r⟩
theorem dt_rd {kvs : List (List Key × V)} (ok : HOk P w H h) (e : Rd H a (.dT kvs)) : kvs.length ≤ sizeLine ∧ (a == sysModules) = false ∧
    ∃ xs, KT H kvs xs ∧ h.DictOfH (tupleKind (mixKind P w)) a xs := by
  obtain ⟨z, y, xs, r, o, es, ep, h1, h2, h3, h4, h5⟩ := (show ObjOk P w H h a (.dT kvs) from rd_of ok e)
  refine ⟨z, y, xs, r, o, es, ep, h1, h2, h3, h4, fun x hx => ?_, h5⟩
  have all : ∀ {l : List (List Key × V)} {m : List (List Key × Addr × Value)}, KT H l m → ∀ x ∈ m, (tupleKind (mixKind P w)).is h x.1 x.2.1 := by
    intro l m q
    induction q with
    | nil => intro x hx; exact nomatch hx
    | @cons p q ps qs hq t ih =>
      intro x hx
      rcases List.mem_cons.mp hx with e | hx
      · subst e
        exact key_of ok (by rw [← hq.1]; exact hq.2.1)
      · exact ih x hx
  exact all r x hx
theorem dt_of {kvs : List (List Key × V)} (ok : HOk P w H h) (e : H a = some (.dT kvs)) : kvs.length ≤ sizeLine ∧ (a == sysModules) = false ∧
    ∃ xs, KT H kvs xs ∧ h.DictOfH (tupleKind (mixKind P w)) a xs := dt_rd ok (.inl e)
end

noncomputable def DGet (H : Hp) (a : Addr) (y : V) (r : Option V) : Prop :=
  (∃ kvs k, Rd H a (.dK kvs) ∧ y = kV k ∧ r = valV kvs k) ∨ ∃ kvs k b, Rd H a (.dT kvs) ∧ y = .ref b ∧ H b = some (.tup (k.map kV)) ∧ r = valV kvs k
noncomputable def DPut (H : Hp) (a : Addr) (y v : V) (H' : Hp) : Prop :=
  (∃ kvs k, H a = some (.dK kvs) ∧ y = kV k ∧ kvs.length < sizeLine ∧ H' = upd H a (.dK (putK kvs k v))) ∨
  ∃ kvs k b, H a = some (.dT kvs) ∧ y = .ref b ∧ H b = some (.tup (k.map kV)) ∧ kvs.length < sizeLine ∧ H' = upd H a (.dT (putK kvs k v))
theorem DGet.k {H : Hp} {a : Addr} {kvs : List (Key × V)} {k : Key} (e : H a = some (.dK kvs)) : DGet H a (kV k) (valV kvs k) := .inl ⟨kvs, k, .inl e, rfl, rfl⟩
theorem DPut.k {H : Hp} {a : Addr} {kvs : List (Key × V)} {k : Key} {v : V} (e : H a = some (.dK kvs)) (hl : kvs.length < sizeLine) : DPut H a (kV k) v (upd H a (.dK (putK kvs k v))) := .inl ⟨kvs, k, e, rfl, hl, rfl⟩


section
variable {X : Cx} {pins : List (Addr × Obj)} {σ : St} {H : Hp} {s : Shared} {a : Addr} {y v : V} {u r : Value} {o : Option V} {A : Around} {E : Value → Shared → Prop}

theorem Inv.big (I : Inv X pins σ H s) : sysModules < s.heap.objs.size := by
  have h : mainGlobals < s.heap.objs.size := (I.mod.glob.keeps I.bk).lt
  exact Nat.lt_trans (by decide) h

theorem d_getItem {Q : Value → Shared → Prop} (hu : A.units + 1 < cLine) (I : Inv X pins σ H s) (g : DGet H a y (some v)) (ry : RelV y u) (h : ∀ w' s', Inv X pins σ H s' → RelV v w' → Q w' s') :
    wpAny (model X.prog X.w) A (getItem (.ref a) u) Q E s := by
  rcases g with ⟨kvs, k, e, ey, l⟩ | ⟨kvs, k, b, e, ey, eb, l⟩
  · subst ey
    obtain ⟨z, hd, vs, rel, dd⟩ := dk_rd I.hok e
    obtain ⟨w', hw, rw'⟩ := RelO.some_of (v := v) (o := valueAt vs k) (by rw [l]; exact rel.val k)
    exact wpAny_getItem_of (kV_is ry) dd.mapOf hw (h w' _ (I.tok _) rw')
  · subst ey
    cases (show u = Value.ref b from ry)
    obtain ⟨z, hd, xs, rel, dd⟩ := dt_rd I.hok e
    obtain ⟨w', hw, rw'⟩ := RelO.some_of (v := v) (o := (atKey xs k).map (·.2)) (by rw [l]; exact rel.val k)
    obtain ⟨p, hp, hp2⟩ := Option.map_eq_some_iff.mp hw
    refine wpAny_getItem_heap (tupleKind_room_in1 hu) (key_of I.hok eb) dd hp ?_
    rw [hp2]
    exact h w' _ (I.tok _) rw'
theorem d_in {Q : Value → Shared → Prop} (hu : A.units + 1 < cLine) (I : Inv X pins σ H s) (g : DGet H a y o) (ry : RelV y u) (h : ∀ s', Inv X pins σ H s' → Q (.bool o.isSome) s') :
    wpAny (model X.prog X.w) A (compareOp .In u (.ref a)) Q E s := by
  rcases g with ⟨kvs, k, e, ey, l⟩ | ⟨kvs, k, b, e, ey, eb, l⟩
  · subst ey
    obtain ⟨z, hd, vs, rel, dd⟩ := dk_rd I.hok e
    refine wpAny_in_of (kV_is ry) hd dd.mapOf ?_
    rw [← (rel.val k).isSome_eq, ← l]
    exact h _ (I.tok _)
  · subst ey
    cases (show u = Value.ref b from ry)
    obtain ⟨z, hd, xs, rel, dd⟩ := dt_rd I.hok e
    refine wpAny_in_heap (tupleKind_room_in1 hu) (key_of I.hok eb) hd dd ?_
    have q := (rel.val k).isSome_eq
    rw [Option.isSome_map] at q
    rw [← q, ← l]
    exact h _ (I.tok _)
theorem d_notIn {Q : Value → Shared → Prop} (hu : A.units + 1 < cLine) (I : Inv X pins σ H s) (g : DGet H a y o) (ry : RelV y u) (h : ∀ s', Inv X pins σ H s' → Q (.bool (!o.isSome)) s') :
    wpAny (model X.prog X.w) A (compareOp .NotIn u (.ref a)) Q E s := by
  rcases g with ⟨kvs, k, e, ey, l⟩ | ⟨kvs, k, b, e, ey, eb, l⟩
  · subst ey
    obtain ⟨z, hd, vs, rel, dd⟩ := dk_rd I.hok e
    refine wpAny_notIn_of (kV_is ry) hd dd.mapOf ?_
    rw [← (rel.val k).isSome_eq, ← l]
    exact h _ (I.tok _)
  · subst ey
    cases (show u = Value.ref b from ry)
    obtain ⟨z, hd, xs, rel, dd⟩ := dt_rd I.hok e
    refine wpAny_notIn_heap (tupleKind_room_in1 hu) (key_of I.hok eb) hd dd ?_
    have q := (rel.val k).isSome_eq
    rw [Option.isSome_map] at q
    rw [← q, ← l]
    exact h _ (I.tok _)
theorem d_write {h' : Heap} {t' : Nat} {ob : HO} (I : Inv X pins σ H s) (mu : Mut (H a)) (hs : Heap.SameBut a s.heap h') (he : ∃ q, h'.get? a = some q) (new : ObjOk X.prog X.w (upd H a ob) h' a ob) :
    Inv X pins σ (upd H a ob) { s with heap := h', toks := t' } :=
  I.write (x := a) (e := a) mu (.inl rfl) (fun b q hb z => (hs.2 b hb).trans z) he new
theorem dk_new {P : Program} {w : World} {H' : Hp} {h' : Heap} {kvs : List (Key × V)} {vs : List (Key × Value)} (z : kvs.length ≤ sizeLine) (hd : (a == sysModules) = false) (rel : KV kvs vs) (dd : h'.DictOf (mixKind P w) a vs) :
    ObjOk P w H' h' a (.dK kvs) := ⟨z, hd, vs, rel, dd⟩
theorem d_setItem {H' : Hp} {Q : Unit → Shared → Prop} (hu : A.units + 1 < cLine) (I : Inv X pins σ H s) (g : DPut H a y v H') (ry : RelV y u) (rv : RelV v r) (h : ∀ s', Inv X pins σ H' s' → Q () s') :
    wpAny (model X.prog X.w) A (setItem (.ref a) u r) Q E s := by
  rcases g with ⟨kvs, k, e, ey, l, eH⟩ | ⟨kvs, k, b, e, ey, eb, l, eH⟩
  · subst ey eH
    obtain ⟨z, hd, vs, rel, dd⟩ := dk_of I.hok e
    have hz : vs.length ≤ sizeLine := by rw [← rel.length]; exact z
    have hl : (putK kvs k v).length ≤ sizeLine := by have := length_putK kvs k v; lia
    refine wpAny_setItem_pairs (hsz := hz) (kV_is ry) dd fun h' dd' hs => h _ ?_
    have he : ∃ q, h'.get? a = some q := let ⟨q, _, _, hq, _⟩ := dd'; ⟨q, hq⟩
    exact d_write I (by rw [e]; exact True.intro) hs he (dk_new hl hd (rel.put k rv) dd')
  · subst ey eH
    cases (show u = Value.ref b from ry)
    obtain ⟨z, hd, xs, rel, dd⟩ := dt_of I.hok e
    have hz : xs.length ≤ sizeLine := by rw [← Paired.length rel]; exact z
    have hl : (putK kvs k v).length ≤ sizeLine := by have := length_putK kvs k v; lia
    refine wpAny_setItem_heap (hsz := hz) (tupleKind_room_in1 hu) (key_of I.hok eb) dd fun h' dd' hs => h _ ?_
    obtain ⟨q, es, ep, hq, h2, h3, h4, _, h5⟩ := dd'
    refine d_write I (by rw [e]; exact True.intro) hs ⟨q, hq⟩ ⟨hl, hd, _, (rel.put k eb rv).keeps fun c ys ec => ?_, q, es, ep, hq, h2, h3, h4, h5⟩
    rw [upd_ne (ne_of ec e (fun z => nomatch z))]
    exact ec
end

section
variable {X : Cx} {pins : List (Addr × Obj)} {σ : St} {H : Hp} {s : Shared} {a : Addr} {kvs : List (Key × V)} {k : Key} {u : Value} {A : Around} {E : Value → Shared → Prop}
end


noncomputable def NoSl (i : Expr) : Prop := ∀ ov iv, subscripted i false ov iv = operate [ov, iv] (getItem ov iv)
theorem subD_of {prog : Program} {w : World} {A : Around} {E : Value → Shared → Prop} {s : Shared} {env : Env} {value slice : Expr} {pos : Pos} {T id : String} {Q : Value → Shared → Prop}
    (hl : typeLookup (.type T) "__getitem__" = pure (some (.builtin id))) (hs : NoSl slice)
    (h : wpAny (model prog w) A (eval value env) (fun o s₁ => wpAny (model prog w) A (eval slice env) (fun i s₂ => s₂.TypeIs o T ∧ wpAny (model prog w) A (getItem o i) Q E s₂) E s₁) E s) :
    wpAny (model prog w) A (eval (.Subscript value slice pos) env) Q E s := by
  refine Subscript_ (wpAny_mono h (fun o s₁ h₁ => wpAny_mono h₁ (fun i s₂ h₂ => ?_) fun _ _ x => x) fun _ _ x => x)
  obtain ⟨hT, h₂⟩ := h₂
  unfold subscriptTail
  refine wpAny_bind ?_
  rw [getitemInPython_of_ne hT.not_modules]
  refine wpAny_bind (wpAny_specialOf hT hl ?_)
  have fin : wpAny (model prog w) A (subscripted slice false o i) (fun r s₃ => wpAny (model prog w) A (letTemporaryGo value o r >>= fun _ => pure r) Q E s₃) E s₂ := by
    rw [hs o i]
    exact wpAny_operating (wpAny_mono h₂ (fun r s₃ h₃ => wpAny_bind (wpAny_letTemporaryGo (wpAny_pure h₃))) fun _ _ x => x)
  first
    | exact wpAny_pure (wpAny_bind fin)
    | exact wpAny_bind (wpAny_pure (wpAny_bind fin))
    | exact wpAny_bind fin

theorem dict_typeIs {X : Cx} {pins : List (Addr × Obj)} {σ : St} {H : Hp} {s : Shared} {a : Addr} {y : V} {o : Option V} (I : Inv X pins σ H s) (g : DGet H a y o) : s.TypeIs (.ref a) "dict" := by
  rcases g with ⟨kvs, k, e, _, _⟩ | ⟨kvs, k, b, e, _, _, _⟩
  · obtain ⟨_, _, vs, _, dd⟩ := dk_rd I.hok e
    exact dd.typeIs
  · obtain ⟨_, _, xs, _, dd⟩ := dt_rd I.hok e
    exact dd.typeIs

noncomputable def tDGet (td ty : TE) : TE := fun σ H Q => td σ H fun x H1 => ty σ H1 fun y H2 => ∃ a v, x = .ref a ∧ DGet H2 a y (some v) ∧ Q v H2
noncomputable def tDIn (ty td : TE) : TE := fun σ H Q => ty σ H fun y H1 => td σ H1 fun x H2 => ∃ a o, x = .ref a ∧ DGet H2 a y o ∧ Q (.bl o.isSome) H2
noncomputable def tDNotIn (ty td : TE) : TE := fun σ H Q => ty σ H fun y H1 => td σ H1 fun x H2 => ∃ a o, x = .ref a ∧ DGet H2 a y o ∧ Q (.bl (!o.isSome)) H2
noncomputable def sDPut (td ty tv : TE) : TS := fun D σ H => tv σ H fun v H1 => td σ H1 fun x H2 => ty σ H2 fun y H3 => ∃ a H4, x = .ref a ∧ DPut H3 a y v H4 ∧ D.nx σ H4

section
variable {X : Cx} {o i e value : Expr} {pos pos' tpos : Pos} {td ty tv : TE}
theorem pe_dget (hu : X.A.units + 1 < cLine) (ho : PE X o td) (hi : PE X i ty) (hs : NoSl i) : PE X (.Subscript o i pos) (tDGet td ty) := by
  intro pins s σ H Q I h
  refine subD_of PySem.F.slot_dict_getitem.lookup hs (thn (ho pins s σ H _ I h) fun u s1 ⟨x, H1, I1, rx, q1⟩ => thn (hi pins s1 σ H1 _ I1 q1) fun iv s2 z_ => ?_)
  obtain ⟨y, H2, I2, ry, a, v, ex, g, q2⟩ := z_
  subst ex
  obtain rfl : u = Value.ref a := rx
  exact ⟨dict_typeIs I2 g, d_getItem hu I2 g ry fun w' s3 I3 rw' => ⟨v, H2, I3, rw', q2⟩⟩
theorem pc_din (hu : X.A.units + 1 < cLine) (hi : PE X i ty) (ho : PE X o td) : PC X .In i o (tDIn ty td) := by
  intro pins s σ H Q I h
  refine thn (hi pins s σ H _ I h) fun iv s1 ⟨y, H1, I1, ry, q1⟩ => thn (ho pins s1 σ H1 _ I1 q1) fun u s2 z_ => ?_
  obtain ⟨x, H2, I2, rx, a, ov, ex, g, q2⟩ := z_
  subst ex
  obtain rfl : u = Value.ref a := rx
  exact d_in hu I2 g ry fun s3 I3 => ⟨.bl ov.isSome, H2, I3, rfl, q2⟩
theorem pc_dnotin (hu : X.A.units + 1 < cLine) (hi : PE X i ty) (ho : PE X o td) : PC X .NotIn i o (tDNotIn ty td) := by
  intro pins s σ H Q I h
  refine thn (hi pins s σ H _ I h) fun iv s1 ⟨y, H1, I1, ry, q1⟩ => thn (ho pins s1 σ H1 _ I1 q1) fun u s2 z_ => ?_
  obtain ⟨x, H2, I2, rx, a, ov, ex, g, q2⟩ := z_
  subst ex
  obtain rfl : u = Value.ref a := rx
  exact d_notIn hu I2 g ry fun s3 I3 => ⟨.bl (!ov.isSome), H2, I3, rfl, q2⟩
theorem ps_dput (hu : X.A.units + 1 < cLine) (ho : PE X o td) (hi : PE X i ty) (hv : PE X value tv) (hs : swapsWith value (some (.Subscript o i pos')) pos.line X.env = pure false) :
    PS X (.Assign [.Subscript o i pos'] value pos) (sDPut td ty tv) := by
  intro pins s σ H D I h
  refine wpAny_Assign_Subscript (thn (hv pins s σ H _ I h) fun r s1 ⟨v, H1, I1, rv, q1⟩ => thn (ho pins s1 σ H1 _ I1 q1) fun u s2 ⟨x, H2, I2, rx, q2⟩ => thn (hi pins s2 σ H2 _ I2 q2) fun iv s3 ⟨y, H3, I3, ry, a, H4, ex, g, q3⟩ => ?_) hs
  subst ex
  obtain rfl : u = Value.ref a := rx
  exact d_setItem hu I3 g ry rv fun s4 I4 => ⟨σ, H4, I4, q3⟩
end


theorem dk_empty {P : Program} {w : World} {H : Hp} (h : Heap) (hb : sysModules < h.objs.size) : ObjOk P w H (h.push { cls := .type "dict", data := .dict #[] }) h.objs.size (.dK []) :=
  ⟨Nat.zero_le _, beq_eq_false_iff_ne.mpr (Ne.symm (Nat.ne_of_lt hb)), [], .nil, Heap.DictOf.new h⟩
noncomputable def tDNewK : TE := fun _ H Q => ∀ p, H p = none → Q (.ref p) (upd H p (.dK []))
section
variable {X : Cx} {pos : Pos}
theorem pe_dnewK : PE X (.Dict [] [] pos) tDNewK := fun pins s σ H Q I h =>
  wpAny_Dict_empty ⟨.ref s.heap.objs.size, _, I.laid (a := s.heap.objs.size) (o := .dK []) (t' := s.toks) (fun _ _ q => Heap.get?_push_of_some _ q) (Nat.le_refl _) (dk_empty s.heap I.big), rfl, h _ (I.hok.fresh (Nat.le_refl _))⟩
end






section
variable {X : Cx} {pins : List (Addr × Obj)} {σ : St} {H : Hp} {s : Shared} {a : Addr} {y d : V} {u r : Value} {o : Option V} {A : Around} {E : Value → Shared → Prop}
end

section
variable {X : Cx} {o e f : Expr} {apos cpos : Pos} {td ty tx : TE}
end

section
variable {X : Cx} {pins : List (Addr × Obj)} {σ : St} {H : Hp} {s : Shared} {a : Addr} {kvs : List (Key × V)} {A : Around} {E : Value → Shared → Prop}
end


section
variable {X : Cx} {pins : List (Addr × Obj)} {σ : St} {H : Hp} {s : Shared} {a : Addr} {y : V} {u : Value} {A : Around} {E : Value → Shared → Prop}
end
end L2

namespace Att
open PySem PySem.W PySem.Calls PyProof.Rows

theorem ints_of_wellAll {P : Params} {h : Heap} : ∀ (ns : List Int) (vs : List Value), WellAll P h vs (ns.map WData.int) → IntsAre vs ns := by
  intro ns
  induction ns with
  | nil =>
    intro vs w
    rw [List.map_nil] at w
    cases w
    exact .nil
  | cons n ns ih =>
    intro vs w
    rw [List.map_cons] at w
    cases w with
    | cons a b =>
      cases a
      exact .cons _ _ (ih _ b)

theorem script_of {l : OpenLaw} {n : Nat} (hn : l.most = some n) {P : Params} {h : Heap} {args : List WData} {vals : List Value}
    (hpre : l.row.toRowW.claim.pre args = true) (hwl : WellAll P h vals args) :
    ∃ a vs ns, vals = [Value.ref a] ∧ args = [WData.list (ns.map WData.int)] ∧ h.get? a = some { cls := .type "list", data := .seq vs.toArray } ∧ IntsAre vs ns ∧ ns.length ≤ n := by
  have hsh : WShape.hasAll [] args [.list .int] = true := (pre_splitW hpre).1
  have hc : l.pre.holds [] { args := args } = true := (pre_splitW hpre).2
  obtain ⟨d, r, rfl, h1, h2⟩ := hasAllW_cons hsh
  obtain rfl := hasAllW_nil h2
  obtain ⟨xs, rfl, h3⟩ := hasW_list h1
  obtain ⟨ns, rfl⟩ := items_int h3
  have hlen : ns.length ≤ n := by
    unfold OpenLaw.pre at hc
    have h4 : (WTm.not (.lt (.lit (.int (n : Int))) (.len (.arg 0)))).holds [] { args := [.list (ns.map .int)] } = true := by
      have h4 := (holds_andW hc).1
      rw [hn] at h4
      exact h4
    have h5 := condW_of h4 (w_not (w_lt w_lit (w_len_list (w_arg rfl))))
    rw [List.length_map] at h5
    refine Nat.le_of_not_lt fun q => ?_
    have q' : (n : Int) < ((ns.length : Nat) : Int) := by lia
    first
      | (rw [decide_eq_true q'] at h5; exact absurd h5 (by decide))
      | (simp at h5; lia)
  cases hwl with
  | cons w1 w2 =>
    cases w2
    cases w1 with
    | list ho hall => exact ⟨_, _, ns, rfl, rfl, ho, ints_of_wellAll ns _ hall, hlen⟩

theorem post_true (l : OpenLaw) (args : List WData) : l.row.toRowW.claim.post args (.bool true) args = true :=
  postW_of (r := l.row.toRowW) (X := (true == true))
    (show WShape.has [] (.bool true) .bool = true by first | rfl | decide | simp [WShape.has, WShape.arms, WShape.armsAll])
    (show (WTm.eq .res (.lit (.bool true))).value [] { args := args, res := some (.bool true), after := args } = some (.bool (true == true)) from w_eq_bool (w_res rfl) w_lit) rfl


theorem attach_call {l : OpenLaw} {n : Nat} {q : Program} {loose : List Str} {XP : (Str → Option Value) → Heap → Prop} {YP : World → Heap → Prop} {d : DefRec}
    (hn : l.most = some n) (hdf : d.params.defaults = [])
    (call : ∀ (w : World) (s₀ s₁ : Shared) (mg mb : Str → Option Value) (fa : Addr) (o : Obj) (pm cd doc : Value) (a : Addr) (vs : List Value) (ns : List Int),
      Ground q loose [] XP w s₀ mg mb s₁.heap → YP w s₁.heap →
      s₁.heap.get? fa = some o → o.data = .func (docDef d.name d.params d.body d.scope pm cd doc) → s₁.heap.CodeRec cd d.name → mg d.name = some (.ref fa) →
      s₁.heap.get? a = some { cls := .type "list", data := .seq vs.toArray } → IntsAre vs ns → ns.length ≤ n → s₁.gens = #[] →
      codeAny (model l.prog w) callerA (.call (.ref fa) ⟨[.ref a], []⟩) (fun r s' => r = .ok (.ret (.bool true)) ∧ OldK s₁.heap s'.heap ∧ s'.os = s₁.os ∧ AllBare s'.gens) s₁) :
    WalkO q loose XP YP l.row.toRowW d [] (fun f vs => PySem.call f vs) := by
  intro w s₀ s₁ mg mb G Y fa o pm cd doc dV kV ho hd hcd hD hmg hg args vals as hpre hlay hrd hwl hlo
  obtain rfl : dV = .none := Dflts.none hD hdf
  obtain rfl : kV = .none := Dflts.noKw hD
  obtain ⟨a, vs, ns, rfl, rfl, hobj, hints, hlen⟩ := script_of hn hpre hwl
  refine enter_call (codeAny_mono (call w s₀ s₁ mg mb fa o pm cd doc a vs ns G Y ho (fd_plain hd) hcd hmg hobj hints hlen hg) fun r s' hq => ?_)
  obtain ⟨rfl, h2, h3, h4⟩ := hq
  exact ⟨.inl ⟨.bool true, .bool true, [], rfl, fun _ => rfl, .bool true, post_true l _, fun _ => ⟨List.Pairwise.nil, fun _ hm => (nomatch hm)⟩⟩, h2, h3, h4⟩


section
variable {prog : Program} {w : World} {A : Around} {E : Value → Shared → Prop} {s : Shared} {K : Frag}






end
end Att

namespace L2
open PySem PySem.Spec PyProof.Rows

theorem vals_ints : ∀ {vs : List Value} {ns : List Int}, IntsAre vs ns → Vals (ns.map V.int) vs
  | _, _, .nil => .nil
  | _, _, .cons n t h => .cons ⟨t, rfl⟩ (vals_ints h)

noncomputable def Only (H : Hp) : Prop := ∀ b, H b = none ∨ ∃ o xs, H b = some (.frz o (.lst xs))

theorem law_call {P : Program} {w : World} {K : PySem.W.Frag} {mg mb : Str → Option Value} {CX : CXT} {k : Nat} {fa a : Addr} {fd : FuncData} {x : Str} {sp : Sp} {s₁ : Shared} {vs : List Value} {ns : List Int}
    (KX : K.In s₁.heap) (hns : s₁.heap.Ns mainGlobals mg) (hb : s₁.heap.Ns builtinsNs mb) (hbb : ∀ x : Str, x ≠ "__name__" → mb x = bootBuiltins x) (hlim : s₁.heap.NoLimit) (hg : s₁.gens = #[])
    (ha : s₁.heap.get? a = some { cls := .type "list", data := .seq vs.toArray }) (hi : IntsAre vs ns) (hl : ns.length ≤ sizeLine) (hr : Room k callerA)
    (F : ∀ base : Heap, K.In base → base.Ns mainGlobals mg → FnOk P w K mg base CX k fa fd [x] sp) (hbind : ∀ (s : Shared) (u : Value), BindsTo s fd ⟨[u], []⟩ [(x, u)])
    (hsp : ∀ H : Hp, Only H → SqL K H a (ns.map V.int) → sp [.ref a] H (fun v _ => v = .bl true) fun _ _ _ => False)
    (hCX : ∀ H e s', CX [] H s₁ (fun _ _ _ => False) e s' → False) :
    codeAny (model P w) callerA (.call (.ref fa) ⟨[.ref a], []⟩) (fun r s' => r = .ok (.ret (.bool true)) ∧ OldK s₁.heap s'.heap ∧ s'.os = s₁.os ∧ AllBare s'.gens) s₁ := by
  have rv := vals_ints hi
  have lenV := hi.length
  -- from an abstract heap in which nothing but the script may be tracked
  have core : ∀ H : Hp, Only H → SqL K H a (ns.map V.int) → HOk P w H s₁.heap → (∀ b, H b ≠ none → b = a) → (H a ≠ none → K.lookup a = none) →
      codeAny (model P w) callerA (.call (.ref fa) ⟨[.ref a], []⟩) (fun r s' => r = .ok (.ret (.bool true)) ∧ OldK s₁.heap s'.heap ∧ s'.os = s₁.os ∧ AllBare s'.gens) s₁ := by
    intro H hO hS hok hA hK
    have base_of : ∀ {b : Addr} {o : Obj}, s₁.heap.get? b = some o → H b = none → (hidT s₁.heap H).get? b = some o := fun e n => hidT_get e n
    have noA : ∀ {b : Addr} {o : Obj} {es : Array DictEntry} {ep : Nat}, s₁.heap.get? b = some o → o.data = .dict es ep → H b = none := fun {b o es ep} e d => by
      cases q : H b with
      | none => rfl
      | some u =>
        have e' : b = a := hA b (by rw [q]; simp)
        subst e'
        rw [ha] at e; cases e
        have d' : Data.seq vs.toArray _ = Data.dict es ep := d
        cases d'
    have nsK : ∀ {b : Addr} {m : Str → Option Value}, s₁.heap.Ns b m → (hidT s₁.heap H).Ns b m := fun {b m} ⟨o, es, ep, e, d, r⟩ => ⟨o, es, ep, base_of e (noA e d), d, r⟩
    have hKb : K.In (hidT s₁.heap H) := fun b o e => base_of (KX b o e) (by
      cases q : H b with
      | none => rfl
      | some u =>
        have e' : b = a := hA b (by rw [q]; simp)
        subst e'
        rw [hK (by rw [q]; simp)] at e; cases e)
    have hM : Mod K mg (hidT s₁.heap H) := ⟨hKb, nsK hns, ⟨mb, nsK hb, hbb⟩, let ⟨mc, h1, h2⟩ := hlim; ⟨mc, nsK h1, h2⟩⟩
    have e0 : Env0 P w K mg (hidT s₁.heap H) callerA [] s₁ H := ⟨rfl, hM, fun b o e => of_hidT e, Nat.le_of_eq (hidT_size _ _), trivial, fun b hb => absurd (show b ∈ ([] : List Addr) from hb) (by simp), hok, .of_eq hg⟩
    refine codeAny_mono ((F _ hKb (nsK hns)).run callerA [] s₁ H ⟨[.ref a], []⟩ [.ref a] [.ref a] _ _ hr e0 (hbind s₁ (.ref a)) (.cons rfl .nil) (hsp H hO hS)) fun r s' h => ?_
    cases r with
    | error e => exact (hCX H e s' h).elim
    | ok fl =>
      cases fl with
      | next => exact False.elim h
      | brk => exact False.elim h
      | cont => exact False.elim h
      | ret u =>
        obtain ⟨v, H', os, bare, un, hok', r', q⟩ := h
        have q' : v = .bl true := q
        subst q'
        obtain rfl : u = Value.bool true := r'
        refine ⟨rfl, OldK.of_keep fun b o e => ?_, os, bare⟩
        cases q : H b with
        | none => exact un.keep b o e q (by intro z; exact absurd (show b ∈ ([] : List Addr) from z) (by simp)) (by simp)
        | some u =>
          rcases hO b with z | ⟨ob, xs, z⟩
          · rw [q] at z; cases z
          · have z2 := un.frzs b ob _ z
            obtain ⟨e1, _⟩ := hok b _ z
            obtain ⟨e2, _⟩ := hok' b _ z2
            rw [e] at e1; cases e1
            exact e2
  cases hk : K.lookup a with
  | some o =>
    -- the script is one of the module's own objects
    have e := KX a o hk
    rw [ha] at e
    cases e
    refine core (fun _ => none) (fun _ => .inl rfl) (.inr ⟨_, vs.toArray, _, hk, rfl, rfl, rfl, by rw [List.size_toArray, lenV]; exact hl, by simpa using rv⟩) (fun b u z => by have z' : (none : Option HO) = some u := z; cases z') (fun b z => absurd rfl z) fun z => absurd rfl z
  | none =>
    refine core (fun b => if b = a then some (.frz { cls := .type "list", data := .seq vs.toArray } (.lst (ns.map V.int))) else none) (fun b => ?_) (.inl (.inr ⟨{ cls := .type "list", data := .seq vs.toArray }, if_pos rfl⟩)) (fun b u z => ?_) (fun b z => ?_) fun _ => hk
    · by_cases hb : b = a
      · exact .inr ⟨_, _, if_pos hb⟩
      · exact .inl (if_neg hb)
    · by_cases hb : b = a
      · have z' := (if_pos hb).symm.trans z
        cases z'
        subst hb
        exact ⟨ha, by rw [List.length_map]; exact hl, vs, _, rv, ha⟩
      · have z' := (if_neg hb).symm.trans z
        cases z'
    · by_cases hb : b = a
      · exact hb
      · exact absurd (if_neg hb) z
end L2

namespace L2
open PySem PySem.Spec PyProof.Rows


theorem walk_of {l : PySem.W.OpenLaw} {n k : Nat} {q : Program} {loose : List Str} {XP : (Str → Option Value) → Heap → Prop} {YP : World → Heap → Prop} {d : DefRec} {K : Params → PySem.W.Frag} {CX : World → CXT} {sp : World → Sp} {x : Str}
    (hn : l.most = some n) (hn2 : n ≤ sizeLine) (hdf : d.params.defaults = []) (hr : Room k callerA)
    (hY : ∀ (w : World) (h : Heap), YP w h → (K w.params).In h)
    (F : ∀ (w : World) (mg : Str → Option Value) (fa : Addr) (h : Heap), (K w.params).In h → h.Ns mainGlobals mg → mg d.name = some (.ref fa) →
      ∃ fd : FuncData, (∀ (s : Shared) (u : Value), BindsTo s fd ⟨[u], []⟩ [(x, u)]) ∧
        ∀ base : Heap, (K w.params).In base → base.Ns mainGlobals mg → FnOk l.prog w (K w.params) mg base (CX w) k fa fd [x] (sp w))
    (hsp : ∀ (w : World) (H : Hp) (a : Addr) (ns : List Int), ns.length ≤ n → Only H → SqL (K w.params) H a (ns.map V.int) → sp w [.ref a] H (fun v _ => v = .bl true) fun _ _ _ => False)
    (hCX : ∀ (w : World) (H : Hp) (s : Shared) (e : Value) (s' : Shared), CX w [] H s (fun _ _ _ => False) e s' → False) :
    PySem.W.WalkO q loose XP YP l.row.toRowW d [] (fun f vs => PySem.call f vs) := by
  refine Att.attach_call hn hdf fun w s₀ s₁ mg mb fa o pm cd doc a vs ns G Y ho hd hcd hmg hobj hints hlen hg => ?_
  have KX := hY w _ Y
  obtain ⟨fd, hb, hF⟩ := F w mg fa _ KX G.T.g hmg
  exact law_call KX G.T.g G.T.b G.T.builtins G.T.nolimit hg hobj hints (Nat.le_trans hlen hn2) hr hF hb (fun H hO hS => hsp w H a ns hlen hO hS) fun H e s' => hCX w H s₁ e s'
end L2

/- THE LAST THEOREM (shape; LID, My.* are yours):
   My.Adr: a structure of the addresses that your layer names (classes, functions); My.Txt K t: a structure (Prop) of the equations over K;
   My.txt_mk : {K} {implicit addresses ..} (e1 : nsIn K mainGlobals "law" = some (some (.ref f))) (e2 : K.lookup f = some ⟨oc, od, .func (fnOf "law" "law" params body scope dV kV doc pm an cdv ct), sl⟩) (e3 : codeIn K cdv "law" = true) .. : ∃ t, My.Txt K t

set_option maxRecDepth 100000 in
set_option maxHeartbeats 0 in
theorem PySem.Challenge.cw_LID_holds : PySem.Challenge.rw_LID.Holds := by
  w_on; o_law; k_head; (case hw => w_witness2)
  k_fill
  refine L2.walk_of (l := PySem.Challenge.rw_LID) (n := 63) (k := 40) (x := "script") (CX := fun w => ..) (sp := fun _ => My.sp_law) rfl (by decide) rfl ⟨rfl, by decide, by decide⟩ (fun w h Y => PySem.W.kIn_of Y) ?F ?S ?C
  case F =>
    intro w mg fa h KX G hmg
    have T : ∃ t, My.Txt (L2.KOf KX) t := by
      dsimp only [L2.KOf]                          -- K must stand as «<heap const> w.params» for k_is
      refine' My.txt_mk ?e1 ?e2 ?e3 ..
      (case e1 => PySem.W.k_is)                    -- in the order: a name -> its address -> its object -> its parts
      (case e2 => PySem.W.k_is)
      ..
    obtain ⟨t, T⟩ := T
    have e0 := hmg.symm.trans (PySem.W.mg_of KX G T.law)
    cases e0                                       -- fa is the law's own address
    exact ⟨_, fun s u => .of_eq rfl, fun base kb nb => My.law_fn T kb nb⟩     -- if «.of_eq rfl» comes too early: refine' ⟨_, ?b, fun base kb nb => My.law_fn T kb nb⟩; exact fun s u => .of_eq rfl
  case S => exact fun w H a ns hl hO hS => ..
  case C => exact ..
(the tactic k_is has no namespace: write k_is) -/

namespace L2
open PySem PySem.Spec PyProof.Rows

noncomputable def inClass (s : Stmt) (j : Nat) : Stmt := match s with
  | .ClassDef _ _ _ body _ _ _ _ _ _ _ => body.getD j (.Pass ⟨0, 0, 0, 0⟩)
  | _ => .Pass ⟨0, 0, 0, 0⟩
noncomputable def defArgs (s : Stmt) : Arguments := match s with
  | .FunctionDef _ a _ _ _ _ _ _ _ _ => a
  | _ => { posonlyargs := [], args := [], vararg := none, kwonlyargs := [], kw_defaults := [], kwarg := none, defaults := [] }
noncomputable def defBody (s : Stmt) : List Stmt := match s with
  | .FunctionDef _ _ b _ _ _ _ _ _ _ => b
  | _ => []
noncomputable def defScope (s : Stmt) : Scope := match s with
  | .FunctionDef _ _ _ _ _ _ sc _ _ _ => sc
  | _ => { kind := .function, names := [], isGenerator := false, isCoroutine := false }

noncomputable abbrev CX0 : CXT := fun _ _ _ _ _ _ => False
noncomputable abbrev E0 : XK := fun _ _ _ => False
theorem pass0 {X : Cx} : Passes CX0 X E0 := fun _ _ _ _ _ _ _ h => h.elim

structure Fun (K : PySem.W.Frag) (x qual : Str) (st : Stmt) (f : Addr) (fd : FuncData) : Prop where
  ex : ∃ (oc : Value) (od : Option Addr) (kV doc pm : Value) (an : Option Addr) (cdv ct : Value) (osl : Array (Option Value)),
    fd = PySem.W.fnOf x qual (defArgs st) (defBody st) (defScope st) .none kV doc pm an cdv ct ∧ K.lookup f = some ⟨oc, od, .func fd, osl⟩ ∧ PySem.W.codeIn K cdv qual = true
  kp : PySem.W.keepIn K (.ref f) = true
section
variable {P : Program} {w : World} {K : PySem.W.Frag} {mg : Str → Option Value} {base : Heap}
theorem Fun.ok {x qual : Str} {st : Stmt} {f : Addr} {fd : FuncData} {N ps : List Str} {k : Nat} {sp : Sp} (F : Fun K x qual st f fd) (S : FnScope N ps (defScope st)) (len : ∀ vs H Q E, sp vs H Q E → vs.length = ps.length)
    (hbody : ∀ (cdv : Value) (A : Around) (outer : List Env) (s : Shared) (H : Hp) (vs : List V) (Q : VK) (E : XK), Room k (A.deeper (envOfC qual (defScope st) s.heap.objs.size f cdv)) → sp vs H Q E →
      ∃ t, PSs (cxOf CX0 P w K mg base N qual (defScope st) f cdv A outer s H E).nox (defBody st) t ∧ t { nx := fun _ H' => Q .non H', rt := Q } (start N vs) H) : FnOk P w K mg base CX0 (k + 1) f fd ps sp := by
  obtain ⟨oc, od, kV, doc, pm, an, cdv, ct, osl, rfl, lk, hcd⟩ := F.ex
  refine fn_of lk hcd S len fun A outer s H vs Q E hr hsp => ?_
  obtain ⟨t, h, q⟩ := hbody cdv A outer s H vs Q E hr hsp
  exact ⟨t, h.nox, q⟩
theorem Fun.binds {x qual : Str} {st : Stmt} {f : Addr} {fd : FuncData} {ps : List Str} (F : Fun K x qual st f fd)
    (h : ∀ (kV doc pm : Value) (an : Option Addr) (cdv ct : Value) (us : List Value), us.length = ps.length → bindArgs (PySem.W.fnOf x qual (defArgs st) (defBody st) (defScope st) .none kV doc pm an cdv ct) ⟨us, []⟩ = pure (ps.zip us)) : Binds K fd ps [] := by
  obtain ⟨oc, od, kV, doc, pm, an, cdv, ct, osl, rfl, lk, hcd⟩ := F.ex
  exact .all (h kV doc pm an cdv ct)
theorem fun_mk {x qual : Str} {st : Stmt} {f : Addr} {oc : Value} {od an : Option Addr} {osl : Array (Option Value)} {kV doc pm cdv ct : Value} (l : K.lookup f = some ⟨oc, od, .func (PySem.W.fnOf x qual (defArgs st) (defBody st) (defScope st) .none kV doc pm an cdv ct), osl⟩)
    (c : PySem.W.codeIn K cdv qual = true) (k : PySem.W.keepIn K (.ref f) = true) : Fun K x qual st f (PySem.W.fnOf x qual (defArgs st) (defBody st) (defScope st) .none kV doc pm an cdv ct) := ⟨⟨oc, od, kV, doc, pm, an, cdv, ct, osl, rfl, l, c⟩, k⟩
end
theorem hu_of {A : Around} {k : Nat} (hr : Room k A) : A.units + 1 < cLine := Nat.lt_of_le_of_lt (Nat.add_le_add_left (by decide : 1 ≤ 64) _) hr.units
theorem small1000 {n : Nat} (h : n ≤ 1000) : n < sizeLine := Nat.lt_of_le_of_lt h (by decide)

section
variable {X : Cx}
theorem pv (i : Nat) {x : Str} {pos : Pos} (hN : X.N[i]? = some x := by rfl) (hv : Vis X.env.scope x := by first | exact Or.inl rfl | exact Or.inr (Or.inl rfl) | exact Or.inr (Or.inr rfl)) (hd : (x == ("__debug__" : Str)) = false := by decide)
    (hcd : (x == ("__classdict__" : Str)) = false := by decide) : PE X (.Name x pos) (tVar i) := pe_var hN hv hd hcd
end

theorem iteF {A B : Prop} (h : B) : if false = true then A else B := by
  rw [if_neg Bool.false_ne_true]
  exact h
theorem iteT {A B : Prop} (h : A) : if true = true then A else B := by
  rw [if_pos rfl]
  exact h
theorem ite2 {c A B : Prop} [Decidable c] (h1 : c → A) (h2 : ¬ c → B) : if c then A else B := by
  by_cases h : c
  · rw [if_pos h]
    exact h1 h
  · rw [if_neg h]
    exact h2 h
theorem iteNS {c A B : Prop} [Decidable c] (hc : c) (h : B) : if (!decide c) = true then A else B := by
  rw [decide_eq_true hc]
  exact iteF h

noncomputable def Same (H H' : Hp) : Prop := ∀ b o, H b = some o → H' b = some o
theorem Same.refl (H : Hp) : Same H H := fun _ _ h => h
theorem Same.trans {H H1 H2 : Hp} (a : Same H H1) (b : Same H1 H2) : Same H H2 := fun c o h => b c o (a c o h)
theorem Same.free {H H' : Hp} (e : Same H H') {l : Addr} (h : H' l = Option.none) : H l = Option.none := by
  cases q : H l with
  | none => rfl
  | some o =>
    rw [e l o q] at h
    cases h
theorem Same.seq {K : PySem.W.Frag} {H H' : Hp} {a : Addr} {xs : List V} (e : Same H H') (h : SqL K H a xs) : SqL K H' a xs := by
  rcases h with (h | ⟨o, h⟩) | h
  · exact .inl (.inl (e _ _ h))
  · exact .inl (.inr ⟨o, e _ _ h⟩)
  · exact .inr h

section
variable {X : Cx}
end
section
variable {κ : Type} [DecidableEq κ]
end
end L2


set_option Elab.async false
set_option linter.all false
set_option maxRecDepth 100000
set_option maxHeartbeats 4000000
namespace L2
open PySem PySem.Spec PyProof.Rows

structure Df (P : Program) (w : World) (K : PySem.W.Frag) (mg : Str → Option Value) (base : Heap) (k : Nat) (x : Str) (ps : List Str) (sp : Sp) : Prop where
  ex : ∃ (f : Addr) (fd : FuncData), mg x = some (.ref f) ∧ PySem.W.keepIn K (.ref f) = true ∧ Binds K fd ps [] ∧ FnOk P w K mg base CX0 k f fd ps sp
theorem pe_df {X : Cx} {k : Nat} {x : Str} {ps : List Str} {sp : Sp} {e : Expr} {es : List Expr} {t : TA} {p pos : Pos} (D : Df X.prog X.w X.K X.mg X.base k x ps sp) (hr : Room k X.A) (ha : PA X (e :: es) t)
    (hg : Gl X x := by rfl) (hdb : (x == ("__debug__" : Str)) = false := by decide) (he : starEach (e :: es) X.env = (false, eval e X.env) :: starEach es X.env := by rfl) (hpl : (backTo pos (starEach es X.env)).any (·.1) = false := by rfl) :
    PE X (.Call (.Name x p) (e :: es) [] pos) (tCall sp [] E0 t) := by
  obtain ⟨f, fd, h1, h2, h3, h4⟩ := D.ex
  exact pe_call h4 hr hg h1 h2 h3 .nil pass0 ha hdb he hpl
structure Cf (P : Program) (w : World) (K : PySem.W.Frag) (mg : Str → Option Value) (base : Heap) (k : Nat) (C : Addr) (x : Str) (ps : List Str) (sp : Sp) : Prop where
  ex : ∃ (f : Addr) (fd : FuncData), mg x = some (.ref C) ∧ Mk K C f ∧ Binds K fd ps [] ∧ FnOk P w K mg base CX0 k f fd ps sp
theorem pe_cf {X : Cx} {k : Nat} {C : Addr} {x : Str} {ps : List Str} {sp : Sp} {e : Expr} {es : List Expr} {t : TA} {p pos : Pos} (D : Cf X.prog X.w X.K X.mg X.base k C x ps sp) (hr : Room (k + 1) X.A) (ha : PA X (e :: es) t)
    (hg : Gl X x := by rfl) (hdb : (x == ("__debug__" : Str)) = false := by decide) (he : starEach (e :: es) X.env = (false, eval e X.env) :: starEach es X.env := by rfl) (hpl : (backTo pos (starEach es X.env)).any (·.1) = false := by rfl) :
    PE X (.Call (.Name x p) (e :: es) [] pos) (tMake C sp [] E0 t) := by
  obtain ⟨f, fd, h1, h2, h3, h4⟩ := D.ex
  exact pe_make h2 h4 hr hg h1 h3 .nil pass0 ha hdb he hpl

section
variable {X : Cx} {pins : List (Addr × Obj)} {σ : St} {H : Hp} {s : Shared} {h' : Heap}
theorem Inv.turnNew {fp : List Addr} {p : Addr} {o : HO} {t' : Nat} (I : Inv X pins σ H s) (hf : ∀ b ∈ fp, FpOk X pins H b) (k : ∀ b u, b ∉ fp → s.heap.get? b = some u → h'.get? b = some u) (hp : s.heap.objs.size ≤ p)
    (new : ObjOk X.prog X.w (upd H p o) h' p o) : Inv X pins σ (upd H p o) { s with heap := h', toks := t' } := by
  have hn : H p = none := I.hok.fresh hp
  have nfp : ∀ b u, H b = some u → b ∉ fp := fun b u e z => by rw [(hf b z).1] at e; cases e
  refine I.step (g' := s.gens) (d' := s.drawn) (ch := fp) (fun b hb => ?_) (fun b u _ _ hc e _ => k b u hc e) (fun b u _ _ hc e _ => ⟨u.slots, k b u hc e⟩) (fun b u _ e n => ?_)
    (fun b u hc e => ⟨u, k b u hc e⟩) (fun b xs e => ?_) (fun b u v e => ?_) (fun b ps e => ?_) (fun m hm => ?_) (fun b u e => ?_) I.bare
  · obtain ⟨f0, f1, f2, f3, f4, f5⟩ := hf b hb
    exact ⟨f3, f1, f4, f5⟩
  · rw [upd_ne (Nat.ne_of_lt (Nat.lt_of_lt_of_le (Heap.lt_size e) hp))]; exact n
  · rw [upd_ne (ne_of_none e hn)]; exact e
  · rw [upd_ne (ne_of_none e hn)]; exact e
  · exact ⟨#[], by rw [upd_ne (ne_of_none e hn), e]; simp⟩
  · obtain ⟨o1, es, ep, ho, r⟩ := hm
    exact ⟨o1, es, ep, k _ o1 (fun z => (hf _ z).2.1 rfl) ho, r⟩
  · by_cases hb : b = p
    · subst hb; rw [upd_same] at e; cases e; exact new
    · rw [upd_ne hb] at e
      refine (I.hok b u e).stay (fun c v hc q => k c v ?_ q) (fun c q => by rw [upd_ne (ne_of_none q hn)]; exact q) fun c xs q => by rw [upd_ne (ne_of_none q hn)]; exact q
      rcases hc with z | z
      · rw [z]; exact nfp b u e
      · exact nfp c _ z
end

noncomputable def Ite (K : PySem.W.Frag) (a : Addr) : It :=
  ⟨fun i H => ∃ xs x, SqL K H a xs ∧ xs[i]? = some x, fun i H x H' => ∃ p y, x = .ref p ∧ H p = none ∧ H' = upd H p (.tup [.int (i : Nat), y]) ∧ ∀ xs, SqL K H a xs → xs[i]? = some y, fun i H => ∃ xs, SqL K H a xs ∧ xs.length ≤ i⟩
theorem turn_enum {P : Program} {w : World} {K : PySem.W.Frag} {elts : List Expr} {kk : Nat} {tp : Pos} (a e it : Addr) (hne : e ≠ it) : Turn P w K (.Tuple elts kk tp) (Ite K a) [e, it] e (fun i h => (∃ old, IsEnum h e it ((i : Nat) : Int) old) ∧ h.IsListIter it a i) where
  mem := by simp
  obj := fun i h st b hb => by
    obtain ⟨⟨old, he⟩, hit⟩ := st
    rcases List.mem_cons.mp hb with z | hb
    · subst z
      exact ⟨_, he, fun v z => by
        have z' : Data.fields _ = Data.cell v := z
        cases z'⟩
    · have z : b = it := by simpa using hb
      subst z
      obtain ⟨o, e, c, d⟩ := hit
      exact ⟨o, e, fun v z => by rw [d] at z; cases z⟩
  keep := fun i h h' st k => by
    obtain ⟨⟨old, he⟩, hit⟩ := st
    exact ⟨⟨old, k e (by simp) _ he⟩, hit.at fun o q => k it (by simp) o q⟩
  item := by
    intro X hP hw hK hc i pins s σ H E I hf st hg
    subst hP hw hK
    obtain ⟨⟨old, he⟩, hit⟩ := st
    obtain ⟨xs, x, hq, hx⟩ := hg
    obtain ⟨its, rv, p, hz⟩ := I.list hq
    obtain ⟨u, hu, ru⟩ := rv.get hx
    have hel : e < s.heap.objs.size := Heap.lt_size he
    have hil : it < s.heap.objs.size := by obtain ⟨_, q, _⟩ := hit; exact Heap.lt_size q
    have hp : H s.heap.objs.size = none := I.hok.fresh (Nat.le_refl _)
    refine wpAny_pyNext_enum_item he hit p.isList (x := u) (by simpa using hu) hne fun h' ho hit' hT hsz hk => ?_
    refine ⟨_, rfl, ?_⟩
    refine wpAny_letOwnedTupleGo_enum ho fun h2 he2 hs2 => ?_
    have hs2 : Heap.SameBut e h' h2 := hs2
    have keep : ∀ b u, b ∉ [e, it] → s.heap.get? b = some u → h2.get? b = some u := fun b u hb q => by
      have b1 : b ≠ e := fun z => hb (by simp [z])
      have b2 : b ≠ it := fun z => hb (by simp [z])
      exact (hs2.2 b b1).trans (hk b u b1 b2 q)
    have new : ObjOk X.prog X.w (upd H s.heap.objs.size (.tup [.int (i : Nat), x])) h2 s.heap.objs.size (.tup [.int (i : Nat), x]) := by
      refine ⟨by show 2 ≤ sizeLine; decide, [.int i s.toks, u], .cons ⟨_, rfl⟩ (.cons ru .nil), ⟨_, (hs2.2 _ (Nat.ne_of_gt hel)).trans hT, rfl, _, rfl⟩⟩
    refine ⟨.ref s.heap.objs.size, upd H s.heap.objs.size (.tup [.int (i : Nat), x]), I.turnNew (fp := [e, it]) hf keep (Nat.le_refl _) new, rfl, ⟨_, x, rfl, hp, rfl, fun ys hy => by rw [I.list_inj hy hq]; exact hx⟩,
      ⟨⟨_, he2⟩, hit'.at fun o q => (hs2.2 it (Ne.symm hne)).trans q⟩, fun b hb => ?_⟩
    have hb2 : b < s.heap.objs.size := by
      rcases List.mem_cons.mp hb with z | hb
      · rw [z]; exact hel
      · have z : b = it := by simpa using hb
        rw [z]; exact hil
    rw [upd_ne (Nat.ne_of_lt hb2)]
    exact (hf b hb).1
  done := by
    intro X hP hw hK hc i pins s σ H E I hf st hg
    subst hP hw hK
    obtain ⟨⟨old, he⟩, hit⟩ := st
    obtain ⟨xs, hq, hx⟩ := hg
    obtain ⟨its, rv, p, hz⟩ := I.list hq
    obtain ⟨f0, f1, f2, f3, f4, f5⟩ := hf it (by simp)
    have hl := rv.length
    exact wpAny_pyNext_enum_end (I.ok.hd hc) he hit p.isList (by simp; lia) fun h' eb => ⟨rfl, I.turned (t' := s.toks) (fun b o hb e => eb b o hb e) f0 f1 f3 f4 f5⟩
  self := fun _ _ _ _ _ st h => by
    obtain ⟨⟨old, he⟩, hit⟩ := st
    exact wpAny_pyIter_enum he h
section
variable {X : Cx}
noncomputable def iEnum (K : PySem.W.Frag) (tl : TE) : TI := fun σ H R => tl σ H fun x H1 => ∃ a, x = .ref a ∧ (∃ xs, SqL K H1 a xs) ∧ R (Ite K a) H1
theorem pi_enum {l : Expr} {tl : TE} {elts : List Expr} {kk : Nat} {tp p pos : Pos} (hg : Gl X "enumerate") (hm : X.mg "enumerate" = none) (hl : PE X l tl) (hs : starEach [l] X.env = [(false, eval l X.env)] := by rfl) :
    PI X (.Tuple elts kk tp) (.Call (.Name "enumerate" p) [l] [] pos) (iEnum X.K tl) := by
  intro pins s σ H R I h
  have ha : PA X [l] (tCons tl tNil) := pa_cons hl pa_nil hs
  refine Call_ (ld_blt I hg hm boot_enumerate (PyProof.Rows.callWith_type1 (thn (ha pos pins s σ H (fun vs H1 => ∃ x, vs = [x] ∧ ∃ a, x = .ref a ∧ (∃ xs, SqL X.K H1 a xs) ∧ R (Ite X.K a) H1) I ?_) fun us s1 ⟨vs, H1, I1, r1, q1⟩ => ?_) hs rfl))
  · show tl σ H fun x H1 => _
    exact cast (congrArg (tl σ H) (by funext x H1; show _ = (∃ y, [x] = [y] ∧ _); exact propext ⟨fun z => ⟨x, rfl, z⟩, fun ⟨y, e, z⟩ => by cases e; exact z⟩)) h
  · obtain ⟨x, e, a, e2, ⟨xs, hq⟩, q⟩ := q1
    subst e; subst e2
    cases r1 with
    | cons r rr =>
      cases rr
      cases r
      obtain ⟨its, rv, p, hz⟩ := I1.list hq
      refine call_enumerate_list p.isList fun h' he hit hsz hk => ?_
      have I2 : Inv X pins σ H1 { s1 with heap := h' } := I1.kept (t' := s1.toks) hk
      refine wpAny_pyIter_enum (s := { s1 with heap := h' }) he ?_
      refine ⟨s1.heap.objs.size + 1, [s1.heap.objs.size + 1, s1.heap.objs.size], _, _, H1, rfl, I2, turn_enum a _ _ (Nat.ne_of_gt (Nat.lt_succ_self _)), ⟨⟨_, he⟩, hit⟩, fun b hb => ?_, q⟩
      have hb2 : s1.heap.objs.size ≤ b := by
        rcases List.mem_cons.mp hb with z | hb
        · rw [z]; exact Nat.le_succ _
        · have z : b = s1.heap.objs.size := by simpa using hb
          rw [z]; exact Nat.le_refl _
      exact I1.fpOk hb2 (I1.hok.fresh hb2)
end
theorem for_enum {K : PySem.W.Frag} {a : Addr} {xs : List V} {g : TG} {tb : TS} {D : Ends} {σ : St} {H : Hp} (Pv : Nat → St → Hp → Prop) (h0 : Pv 0 σ H) (hl : ∀ i σ H, i ≤ xs.length → Pv i σ H → SqL K H a xs)
    (hs : ∀ i x σ H p, xs[i]? = some x → Pv i σ H → H p = none → g (.ref p) σ (upd H p (.tup [.int (i : Nat), x])) fun σ2 H2 => tb (D.lp (Pv (i + 1))) σ2 H2) (hd : ∀ σ H, Pv xs.length σ H → D.nx σ H) :
    ∃ W : Nat → Nat → St → Hp → Prop, (∃ m, W 0 m σ H) ∧ ∀ i m σ H, W i m σ H →
      ((Ite K a).stop i H ∧ D.nx σ H) ∨ ((Ite K a).go i H ∧ ∃ N : St → Hp → Prop, (∀ σ' H', N σ' H' → ∃ m', m' < m ∧ W (i + 1) m' σ' H') ∧ ∀ x H', (Ite K a).yld i H x H' → g x σ H' fun σ2 H2 => tb (D.lp N) σ2 H2) := by
  refine ⟨fun i m σ H => m = xs.length - i ∧ i ≤ xs.length ∧ Pv i σ H, ⟨xs.length, by simp, Nat.zero_le _, h0⟩, ?_⟩
  rintro i m σ H ⟨rfl, hi, p⟩
  have q := hl i σ H hi p
  by_cases hlt : i < xs.length
  · refine .inr ⟨⟨xs, xs[i], q, by simp [hlt]⟩, Pv (i + 1), fun σ' H' p' => ⟨xs.length - (i + 1), by lia, rfl, hlt, p'⟩, fun x H' y => ?_⟩
    obtain ⟨pp, z, e1, e2, e3, e4⟩ := y
    subst e1; subst e3
    exact hs i z σ H pp (e4 xs q) p e2
  · have e : i = xs.length := by lia
    subst e
    exact .inl ⟨⟨xs, q, Nat.le_refl _⟩, hd σ H p⟩
end L2

set_option Elab.async false
set_option linter.all false
set_option maxRecDepth 100000
set_option maxHeartbeats 4000000
namespace L2
open PySem PySem.Spec PyProof.Rows

section
variable {prog : Program} {w : World} {A : Around} {R : Result → Shared → Prop} {s : Shared}
theorem compLoop_any {elt target iter : Expr} {ifs : List Expr} {scope : Scope} {pos : Pos} {it acc : Value} {env : Env} (I : Nat → Shared → Prop)
    (turn : ∀ n s, I n s → wpAny (model prog w) A (pyNext it) (fun r s₁ => match r with
      | none => R (.ok .next) s₁
      | some v => wpAny (model prog w) A (letOwnedTupleGo target it v) (fun _ s₀ => wpAny (model prog w) A (assign target env v) (fun _ s₂ =>
          wpAny (model prog w) A (forIn ifs true fun c r => if r = true then do let ok ← isTrue c env (eval c env); pure (ForInStep.yield ok) else pure (ForInStep.yield r)) (fun ok s₃ =>
            if ok = true then wpAny (model prog w) A (eval elt env) (fun x s₄ =>
              wpAny (model prog w) A (call (.builtin "list.append") [acc, x]) (fun _ s₅ => ∃ m, m < n ∧ I m s₅) (fun _ _ => False) s₄) (fun _ _ => False) s₃
            else ∃ m, m < n ∧ I m s₃) (fun _ _ => False) s₂) (fun _ _ => False) s₀) (fun _ _ => False) s₁) (fun _ _ => False) s)
    (n : Nat) (h : I n s) :
    codeAny (model prog w) A (.compLoop (.ListComp elt [⟨target, iter, ifs, 0⟩] scope pos) 0 it acc env) R s := by
  refine codeAny_loop rfl I (fun n s hI => ?_) n h
  show wpAny _ A ((compTurn (.ListComp elt [⟨target, iter, ifs, 0⟩] scope pos) 0 it acc env).onRaise (fun x => do noteFrame x env; theTreesLotGoes x)) _ _ s
  refine wpAny_noted ?_
  rw [compTurn_list]
  refine wpAny_bind (wpAny_standAt (wpAny_bind (wpAny_mono (turn n s hI) (fun r s₁ h₁ => ?_) fun _ _ h' => h'.elim)))
  cases r with
  | none => exact wpAny_pure h₁
  | some v =>
    refine wpAny_bind (wpAny_mono h₁ (fun _ s₀ h₀ => ?_) fun _ _ h' => h'.elim)
    refine wpAny_bind (wpAny_mono h₀ (fun _ s₂ h₂ => wpAny_bind (wpAny_mono h₂ (fun ok s₃ h₃ => ?_) fun _ _ h' => h'.elim)) fun _ _ h' => h'.elim)
    cases ok with
    | false => exact wpAny_pure ⟨rfl, h₃⟩
    | true =>
      exact wpAny_bind (wpAny_bind (wpAny_mono h₃ (fun x s₄ h₄ => wpAny_bind (wpAny_mono h₄ (fun _ s₅ h₅ => wpAny_pure (wpAny_pure ⟨rfl, h₅⟩)) fun _ _ h' => h'.elim)) fun _ _ h' => h'.elim))
end

noncomputable abbrev Cap := List (Nat × Str)
noncomputable def capV (cap : Cap) (σ : St) : St := cap.map fun p => (σ[p.1]?).join
noncomputable def Cx.blk (X : Cx) (scope : Scope) (cl : List (Str × Addr)) (ts : List Str) (cap : Cap) (C : Addr) (s : Shared) (H : Hp) (fp : List Addr) : Cx :=
  { X with N := ts ++ cap.map (·.2), s₀ := s, H₀ := H, env := compEnvC scope cl C X.env, outer := X.stack, stack := X.stack, ex := fp, fn := fun _ => false, pn := [], xe := fun _ _ => False }
structure Blk (X : Cx) (scope : Scope) (ts : List Str) (cap : Cap) (cl : List (Str × Addr)) : Prop where
  clos : closureFor scope X.env = pure cl
  ncell : ∀ y ∈ scope.names, y.2 ≠ .cell
  kind : scope.kind = .function
  names : ∀ y ∈ scope.names, y.2 = .local → scope.names.lookup y.1 = some .local
  sub : ∀ y c, cl.lookup y = some c → X.env.cells.lookup y = some c
  has : ∀ y, ((relabel scope X.env).names.lookup y = some .cell ∨ (relabel scope X.env).names.lookup y = some .free) → ∃ c, cl.lookup y = some c
  cap : ∀ (k j : Nat) (y : Str), cap[k]? = some (j, y) → X.N[j]? = some y ∧ (X.env.kindOf y = some .cell ∨ X.env.kindOf y = some .free) ∧
    ((relabel scope X.env).names.lookup y = some .cell ∨ (relabel scope X.env).names.lookup y = some .free)
theorem lookup_mem {α : Type} {x : Str} {v : α} : ∀ {l : List (Str × α)}, l.lookup x = some v → (x, v) ∈ l
  | [], h => by simp at h
  | (y, u) :: r, h => by
    rw [List.lookup_cons] at h
    cases e : x == y with
    | true =>
      rw [e] at h
      have e' : x = y := eq_of_beq e
      cases h
      rw [e']
      exact List.mem_cons_self
    | false =>
      rw [e] at h
      exact List.mem_cons_of_mem _ (lookup_mem h)
theorem relabel_none {scope : Scope} {env : Env} (hfree : ∀ y ∈ scope.names, y.2 ≠ .free) : (relabel scope env).names = scope.names := by
  show scope.names.map _ = scope.names
  refine map_eq_self fun x hx => ?_
  obtain ⟨n, k⟩ := x
  have : (k == NameKind.free) = false := by simpa using hfree _ hx
  simp [this]
theorem Blk.plain {X : Cx} {scope : Scope} {ts : List Str} (hfree : ∀ y ∈ scope.names, y.2 ≠ .free) (ncell : ∀ y ∈ scope.names, y.2 ≠ .cell) (kind : scope.kind = .function) (names : ∀ y ∈ scope.names, y.2 = .local → scope.names.lookup y.1 = some .local) :
    Blk X scope ts [] [] where
  clos := closureFor_none hfree
  ncell := ncell
  kind := kind
  names := names
  sub := fun _ _ e => nomatch e
  has := fun y h => by
    rw [relabel_none hfree] at h
    rcases h with h | h
    · exact (ncell _ (lookup_mem h) rfl).elim
    · exact (hfree _ (lookup_mem h) rfl).elim
  cap := fun k j y h => by simp at h

section
variable {X : Cx} {scope : Scope} {ts : List Str} {cap : Cap} {cl : List (Str × Addr)} {pins : List (Addr × Obj)} {σ : St} {H : Hp} {s : Shared} {fp : List Addr}
theorem blk_ok (B : Blk X scope ts cap cl) (I : Inv X pins σ H s) (hf : ∀ b ∈ fp, FpOk X pins H b) (hlt : ∀ b ∈ fp, b < s.heap.objs.size) {C : Addr} (hC : s.heap.objs.size ≤ C) : (X.blk scope cl ts cap C s H fp).Ok where
  mod := I.ok.mod
  kind := B.kind
  glob := I.ok.glob
  blt := I.ok.blt
  above := hC
  inj := fun x y c h1 h2 => I.ok.inj x y c (B.sub x c h1) (B.sub y c h2)
  has := fun x h => B.has x h
  cab := fun x c h => nomatch h
  hd := I.ok.hd
  frames := I.ok.frames
  stk := .inl rfl
  exf := fun b hb => ⟨Nat.ne_of_lt (Nat.lt_of_lt_of_le (hlt b hb) hC), fun x c e => (hf b hb).2.2.2.2.1 x c (B.sub x c e)⟩
  bs := I.bs
  bsz := Nat.le_trans I.ok.bsz I.sz
  noex := fun b o e hb => by
    rcases (hf b hb).2.2.2.1 with z | z
    · exact I.ok.noex b o e z
    · exact absurd (Nat.lt_of_lt_of_le (Heap.lt_size e) (Nat.le_trans I.ok.bsz z)) (Nat.lt_irrefl _)
  exfs := fun b hb z => by
    rcases List.mem_cons.mp (I.stkSub b z) with e | e
    · exact (hf b hb).2.1 e
    · exact (hf b hb).2.2.1 e
  funs := I.stack
  frf := I.stkFree
theorem capV_get {k : Nat} {v : V} (h : (capV cap σ)[k]? = some (some v)) : ∃ j y, cap[k]? = some (j, y) ∧ σ[j]? = some (some v) := by
  unfold capV at h
  rw [List.getElem?_map] at h
  cases e : cap[k]? with
  | none => rw [e] at h; cases h
  | some p =>
    rw [e] at h
    refine ⟨p.1, p.2, rfl, ?_⟩
    have h' : (σ[p.1]?).join = some v := Option.some.inj h
    cases q : σ[p.1]? with
    | none => rw [q] at h'; cases h'
    | some o => rw [q] at h'; exact congrArg some h'
theorem blk_inv (B : Blk X scope ts cap cl) (I : Inv X pins σ H s) (hf : ∀ b ∈ fp, FpOk X pins H b) (hlt : ∀ b ∈ fp, b < s.heap.objs.size) {h₁ : Heap} {m : Str → Option Value} {t' : Nat} (hn : h₁.Ns (s.heap.objs.size + 1) m)
    (old : ∀ b o, s.heap.get? b = some o → h₁.get? b = some o) (hD : h₁.get? s.heap.objs.size = some { cls := .type "list", data := .seq #[] 0 }) :
    Inv (X.blk scope cl ts cap (s.heap.objs.size + 1) s H fp) [] (List.replicate ts.length none ++ capV cap σ) (upd H s.heap.objs.size (.lst [])) { s with heap := h₁, toks := t' } := by
  have fD : H s.heap.objs.size = none := I.hok.fresh (Nat.le_refl _)
  have fC : H (s.heap.objs.size + 1) = none := I.hok.fresh (Nat.le_succ _)
  have clt : ∀ x c, cl.lookup x = some c → c < s.heap.objs.size := fun x c e => by
    obtain ⟨v, q⟩ := I.cell x c (B.sub x c e)
    exact q.lt
  refine ⟨blk_ok B I hf hlt (Nat.le_succ _), rfl, I.bare, Un.laid old (Nat.le_refl _) fD, ⟨m, hn, fun i y v e1 e2 e3 => ?_⟩, fun x c e => ?_, ?_, fun x c e => ?_, fun p hp => by simp [Cx.blk] at hp, I.hok.laid old (Nat.le_refl _) ⟨Nat.zero_le _, [], 0, .nil, hD⟩, ?_⟩
  · have e2 : (List.replicate ts.length (none : Option V) ++ capV cap σ)[i]? = some (some v) := e2
    by_cases hi : i < ts.length
    · rw [List.getElem?_append_left (by simpa using hi), List.getElem?_replicate] at e2
      rw [if_pos hi] at e2
      cases e2
    · have hi : ts.length ≤ i := Nat.le_of_not_lt hi
      rw [List.getElem?_append_right (by simpa using hi), List.length_replicate] at e2
      obtain ⟨j, y', ec, es⟩ := capV_get e2
      have e1 : (ts ++ cap.map (·.2))[i]? = some y := e1
      rw [List.getElem?_append_right hi, List.getElem?_map, ec] at e1
      have ey : y' = y := Option.some.inj e1
      subst ey
      obtain ⟨c1, c2, c3⟩ := B.cap _ _ _ ec
      obtain ⟨mo, hno, hlo⟩ := I.loc
      have vis : Vis X.env.scope y' := by
        rcases c2 with c2 | c2
        · exact .inr (.inl c2)
        · exact .inr (.inr c2)
      obtain ⟨u, ru, lk⟩ := hlo j y' v c1 es vis
      rcases lk with ⟨k1, _⟩ | ⟨_, c, hc, o, ho, hd⟩
      · rcases c2 with c2 | c2
        · rw [k1] at c2; cases c2
        · rw [k1] at c2; cases c2
      · obtain ⟨c', hc'⟩ := B.has y' c3
        have q := B.sub y' c' hc'
        rw [hc] at q
        cases q
        exact ⟨u, ru, .inr ⟨c3, c, hc', o, old _ _ ho, hd⟩⟩
  · obtain ⟨v, o, ho, hd⟩ := I.cell x c (B.sub x c e)
    exact ⟨v, o, old _ _ ho, hd⟩
  · show upd H s.heap.objs.size (.lst []) (s.heap.objs.size + 1) = none
    rw [upd_ne (Nat.ne_of_gt (Nat.lt_succ_self _))]
    exact fC
  · rw [upd_ne (Nat.ne_of_lt (clt x c e))]
    exact I.freeC x c (B.sub x c e)
  · show (List.replicate ts.length none ++ capV cap σ).length = (ts ++ cap.map (·.2)).length
    simp [capV]
theorem blk_out (I : Inv X pins σ H s) (hf : ∀ b ∈ fp, FpOk X pins H b) {pl : List (Addr × Obj)} {σ' : St} {H' : Hp} {s' : Shared} {h' : Heap}
    (I' : Inv (X.blk scope cl ts cap (s.heap.objs.size + 1) s H fp) pl σ' H' s') (hs : Heap.SameBut (s.heap.objs.size + 1) s'.heap h') : Inv X pins σ H' { s' with heap := h' } := by
  have hC : H' (s.heap.objs.size + 1) = none := I'.free
  have u : Un (frs X.stack) fp H H' s.heap s'.heap := I'.base
  have nC : ∀ b o, s.heap.get? b = some o → b ≠ s.heap.objs.size + 1 := fun b o e => Nat.ne_of_lt (Nat.lt_succ_of_lt (Heap.lt_size e))
  refine I.call' (s' := { s' with heap := h' }) (ch := fp) I'.os ⟨fun b o e n h1 h2 => (hs.2 b (nC b o e)).trans (u.keep b o e n h1 h2), fun b o e n h1 h2 => ?_, u.free, fun b o e hx => ?_, u.tups, u.frzs, u.tbls⟩ (fun b o e => ?_) I'.bare (fun b hb => ?_)
  · obtain ⟨sl, q⟩ := u.slot b o e n h1 h2
    exact ⟨sl, (hs.2 b (nC b o e)).trans q⟩
  · obtain ⟨o', q⟩ := u.there b o e hx
    exact ⟨o', (hs.2 b (nC b o e)).trans q⟩
  · refine (I'.hok b o e).stay (fun c v hc q => (hs.2 c ?_).trans q) (fun _ q => q) fun _ _ q => q
    rcases hc with z | z
    · rw [z]; intro z2; rw [z2, hC] at e; cases e
    · intro z2; rw [z2, hC] at z; cases z
  · obtain ⟨f0, f1, f2, f3, f4, f5⟩ := hf b hb
    exact ⟨f3, f1, f4, f5⟩
end

noncomputable def PIfs (X : Cx) (ifs : List Expr) (t : TT) : Prop :=
  ∀ (pins : List (Addr × Obj)) (s : Shared) (σ : St) (H : Hp) (Q : Bool → Hp → Prop), Inv X pins σ H s → t σ H Q →
    wpAny (model X.prog X.w) X.A (forIn ifs true fun c r => if r = true then do let ok ← isTrue c X.env (eval c X.env); pure (ForInStep.yield ok) else pure (ForInStep.yield r)) (TP X pins σ Q) X.xe s
noncomputable def tTrue : TT := fun _ H Q => Q true H
theorem pifs_nil {X : Cx} : PIfs X [] tTrue := fun _ _ _ H _ I h => wpAny_tests_nil ⟨H, I, h⟩

noncomputable def tLC (wi : TI) (nt : Nat) (cap : Cap) (g : TG) (tt : TT) (te : TE) : TE := fun σ H Q => wi σ H fun J H1 => ∀ D, H1 D = none → ∃ W : Nat → Nat → St → List V → Hp → Prop,
  (∃ m, W 0 m (List.replicate nt none ++ capV cap σ) [] (upd H1 D (.lst []))) ∧ ∀ i m σ' ys H2, W i m σ' ys H2 →
    (J.stop i H2 ∧ Q (.ref D) H2) ∨ (J.go i H2 ∧ ∃ N : St → List V → Hp → Prop, (∀ σ ys H, N σ ys H → ∃ m', m' < m ∧ W (i + 1) m' σ ys H) ∧ ∀ x H3, J.yld i H2 x H3 → g x σ' H3 fun σ4 H4 => tt σ4 H4 fun b H5 =>
      if b = true then te σ4 H5 fun y H6 => H6 D = some (.lst ys) ∧ ys.length < sizeLine ∧ N σ4 (ys ++ [y]) (upd H6 D (.lst (ys ++ [y])))
      else N σ4 ys H5)
section
variable {X : Cx} {scope : Scope} {ts : List Str} {cap : Cap} {cl : List (Str × Addr)} {tg elt iter : Expr} {ifs : List Expr} {wi : TI} {g : TG} {tt : TT} {te : TE} {pos : Pos}
theorem run_blk (B : Blk X scope ts cap cl) (hc : X.calm = true) (hg : ∀ C s H fp, PG (X.blk scope cl ts cap C s H fp) tg g) (ht : ∀ C s H fp, PIfs (X.blk scope cl ts cap C s H fp) ifs tt) (he : ∀ C s H fp, PE (X.blk scope cl ts cap C s H fp) elt te)
    {pins : List (Addr × Obj)} {s : Shared} {σ : St} {H : Hp} {E : Value → Shared → Prop} {it : Addr} {fp : List Addr} {tn : Nat → Heap → Prop} {J : It} {Q : VK} {RR : Value → Addr → Result → Shared → Prop} (I : Inv X pins σ H s) (T : Turn X.prog X.w X.K tg J fp it tn) (st : tn 0 s.heap) (hf : ∀ b ∈ fp, FpOk X pins H b)
    (hw : ∀ D, H D = none → ∃ W : Nat → Nat → St → List V → Hp → Prop,
      (∃ m, W 0 m (List.replicate ts.length none ++ capV cap σ) [] (upd H D (.lst []))) ∧ ∀ i m σ' ys H2, W i m σ' ys H2 →
        (J.stop i H2 ∧ Q (.ref D) H2) ∨ (J.go i H2 ∧ ∃ N : St → List V → Hp → Prop, (∀ σ ys H, N σ ys H → ∃ m', m' < m ∧ W (i + 1) m' σ ys H) ∧ ∀ x H3, J.yld i H2 x H3 → g x σ' H3 fun σ4 H4 => tt σ4 H4 fun b H5 =>
          if b = true then te σ4 H5 fun y H6 => H6 D = some (.lst ys) ∧ ys.length < sizeLine ∧ N σ4 (ys ++ [y]) (upd H6 D (.lst (ys ++ [y])))
          else N σ4 ys H5))
    (hRR : ∀ (pl : List (Addr × Obj)) (σ' : St) (H' : Hp) (s' : Shared), Inv (X.blk scope cl ts cap (s.heap.objs.size + 1) s H fp) pl σ' H' s' → Q (.ref s.heap.objs.size) H' → RR (.ref s.heap.objs.size) (s.heap.objs.size + 1) (.ok .next) s') :
    wpAny (model X.prog X.w) X.A (newList []) (fun acc s₃ => wpAny (model X.prog X.w) X.A (newFunctionEnv scope X.env.globals cl [] X.env.qual none .none (some X.env)) (fun cenv s₄ =>
      codeAny (model X.prog X.w) X.A (.compStart (.ListComp elt [⟨tg, iter, ifs, 0⟩] scope pos) 0 (.ref it) acc { cenv with scope := relabel scope X.env }) (RR acc cenv.locals) s₄) E s₃) E s := by
  have hlt : ∀ b ∈ fp, b < s.heap.objs.size := fun b hb => by
    obtain ⟨o, e, _⟩ := T.obj _ _ st b hb
    exact Heap.lt_size e
  refine wpAny_newObj_type (wpAny_newFunctionEnv B.ncell (by intro y hy; simp at hy) (fun h₁ hns₁ hsb₁ => ?_) B.kind)
  dsimp only at hns₁ hsb₁ ⊢
  have hz : (s.heap.push { cls := .type "list", dict := none, data := .seq ([] : List Value).toArray }).objs.size = s.heap.objs.size + 1 := Heap.size_push ..
  rw [hz] at hns₁ hsb₁ ⊢
  have keep : ∀ b o, b ≠ s.heap.objs.size + 1 → (s.heap.push { cls := .type "list", dict := none, data := .seq ([] : List Value).toArray }).get? b = some o → h₁.get? b = some o := fun b o hb e => hsb₁.extBut b o hb (Heap.get?_push_of_some _ e)
  have old : ∀ b o, s.heap.get? b = some o → h₁.get? b = some o := fun b o e => keep b o (Nat.ne_of_lt (Nat.lt_succ_of_lt (Heap.lt_size e))) (Heap.get?_push_of_some _ e)
  have hD : h₁.get? s.heap.objs.size = some { cls := .type "list", data := .seq #[] 0 } := keep _ _ (Nat.ne_of_lt (Nat.lt_succ_self _)) (Heap.get?_push_size _ rfl)
  have fD : H s.heap.objs.size = none := I.hok.fresh (Nat.le_refl _)
  obtain ⟨W, ⟨m0, w0⟩, turn⟩ := hw s.heap.objs.size fD
  have I0 := blk_inv (t' := s.toks + ([] : List (Str × Value)).length) B I hf hlt hns₁ old hD
  have st0 : tn 0 h₁ := T.keep _ _ _ st fun b hb o e => old b o e
  have stat : ∀ {H' : Hp}, (∀ b ∈ fp, H' b = none) → ∀ b ∈ fp, FpOk (X.blk scope cl ts cap (s.heap.objs.size + 1) s H fp) [] H' b := fun hn b hb =>
    ⟨hn b hb, Nat.ne_of_lt (Nat.lt_succ_of_lt (hlt b hb)), fun z => by
      rcases List.mem_cons.mp (I.stkSub b z) with e | e
      · exact (hf b hb).2.1 e
      · exact (hf b hb).2.2.1 e, .inl hb, fun x c e => (hf b hb).2.2.2.2.1 x c (B.sub x c e), fun p hp => by simp [Cx.blk] at hp⟩
  have fr0 : ∀ b ∈ fp, (upd H s.heap.objs.size (.lst [])) b = none := fun b hb => by rw [upd_ne (Nat.ne_of_lt (hlt b hb))]; exact (hf b hb).1
  have loop : ∀ s₃ : Shared, s₃ = { s with heap := h₁, toks := s.toks + ([] : List (Str × Value)).length } →
      codeAny (model X.prog X.w) X.A (.compLoop (.ListComp elt [⟨tg, iter, ifs, 0⟩] scope pos) 0 (.ref it) (.ref s.heap.objs.size) (compEnvC scope cl (s.heap.objs.size + 1) X.env)) (RR (.ref s.heap.objs.size) (s.heap.objs.size + 1)) s₃ := by
    rintro s₃ rfl
    refine compLoop_any (fun n s' => ∃ i σ' ys H', Inv (X.blk scope cl ts cap (s.heap.objs.size + 1) s H fp) [] σ' H' s' ∧ tn i s'.heap ∧ (∀ b ∈ fp, H' b = none) ∧ W i n σ' ys H') ?_ m0 ⟨0, _, [], _, I0, st0, fr0, w0⟩
    rintro n s3 ⟨i, σ3, ys, H3, I3, st3, fr3, w3⟩
    rcases turn i n σ3 ys H3 w3 with ⟨stop, qn⟩ | ⟨go, N, hN, step⟩
    · refine thn (T.done (X.blk scope cl ts cap (s.heap.objs.size + 1) s H fp) rfl rfl rfl hc i [] s3 σ3 H3 (fun _ _ => False) I3 (stat fr3) st3 stop) fun r s4 z_ => ?_
      obtain ⟨hr, I4⟩ := z_
      subst hr
      exact hRR _ _ _ _ I4 qn
    · refine thn (T.item (X.blk scope cl ts cap (s.heap.objs.size + 1) s H fp) rfl rfl rfl hc i [] s3 σ3 H3 (fun _ _ => False) I3 (stat fr3) st3 go) fun r s4 z_ => ?_
      obtain ⟨u, hr, h4⟩ := z_
      subst hr
      refine thn h4 fun _ s5 z_ => ?_
      obtain ⟨x, H5, I5, r5, y5, st5, fr5⟩ := z_
      have I5' := I5.pinned (stat fr5) (T.obj _ _ st5)
      refine thn (hg _ _ _ _ _ s5 σ3 H5 x u _ I5' r5 (step x H5 y5)) fun _ s6 z_ => ?_
      obtain ⟨σ6, H6, I6, q6⟩ := z_
      refine thn (ht _ _ _ _ _ s6 σ6 H6 _ I6 q6) fun b s7 z_ => ?_
      obtain ⟨H7, I7, q7⟩ := z_
      have again : ∀ {σ8 : St} {H8 : Hp} {s8 : Shared} {m : Nat} {zs : List V}, Inv (X.blk scope cl ts cap (s.heap.objs.size + 1) s H fp) ([] ++ pinsAt fp s5.heap) σ8 H8 s8 → m < n → W (i + 1) m σ8 zs H8 → ∃ m, m < n ∧ ∃ i σ' ys H', Inv (X.blk scope cl ts cap (s.heap.objs.size + 1) s H fp) [] σ' H' s8 ∧ tn i s8.heap ∧ (∀ b ∈ fp, H' b = none) ∧ W i m σ' ys H' := fun {σ8 H8 s8 m zs} I8 hm w8 => by
        refine ⟨m, hm, i + 1, σ8, zs, H8, I8.unpinned, T.keep _ _ _ st5 fun b hb o e => (I8.pin (b, o) (List.mem_append_right _ (List.mem_append_right _ (mem_pinsAt hb e)))).1, fun b hb => ?_, w8⟩
        obtain ⟨o, e, d⟩ := T.obj _ _ st5 b hb
        exact (I8.pin (b, o) (List.mem_append_right _ (List.mem_append_right _ (mem_pinsAt hb e)))).2.1
      cases b with
      | false =>
        obtain ⟨m', hm, w7⟩ := hN _ _ _ q7
        exact again I7 hm w7
      | true =>
        rw [if_pos rfl]
        refine thn (he _ _ _ _ _ s7 σ6 H7 _ I7 q7) fun v s8 z_ => ?_
        obtain ⟨y, H8, I8, r8, hD8, hz8, n8⟩ := z_
        obtain ⟨m', hm, w8⟩ := hN _ _ _ n8
        refine thn (mt_append _ s8 σ6 H8 (.ref s.heap.objs.size) [y] (.ref s.heap.objs.size) [v] (fun _ H9 => H9 = upd H8 s.heap.objs.size (.lst (ys ++ [y]))) I8 rfl (.cons r8 .nil) ⟨_, _, _, rfl, rfl, hD8, hz8, rfl⟩) fun z s9 z_ => ?_
        obtain ⟨_, H9, I9, _, e9⟩ := z_
        subst e9
        exact again I9 hm w8
  exact codeAny_compStart_list (loop _ rfl) (T.self _ 0 _ _ _ st0 (loop _ rfl))

theorem pe_lc (B : Blk X scope ts cap cl) (hc : X.calm = true) (hi : PI X tg iter wi) (hg : ∀ C s H fp, PG (X.blk scope cl ts cap C s H fp) tg g) (ht : ∀ C s H fp, PIfs (X.blk scope cl ts cap C s H fp) ifs tt) (he : ∀ C s H fp, PE (X.blk scope cl ts cap C s H fp) elt te)
    (hs : ∀ x, foldedSetIterable iter X.env x = pure x := by intro _; rfl) : PE X (.ListComp elt [⟨tg, iter, ifs, 0⟩] scope pos) (tLC wi ts.length cap g tt te) := by
  intro pins s σ H Q I h
  rw [eval_ListComp]
  refine wpAny_comprehension_free (use := none) rfl hs B.clos B.kind B.names (thn (hi pins s σ H _ I h) fun v s1 h1 => thn h1 fun itv s2 h2 => ?_)
  obtain ⟨it, fp, tn, J, H2, e, I2, T, st2, f2, hw⟩ := h2
  subst e
  refine run_blk (RR := fun acc C => compPost (model X.prog X.w) X.A X.xe none (EP X pins σ Q) acc C) B hc hg ht he I2 T st2 f2 hw ?_
  intro pl σ' H' s' I' q
  obtain ⟨m, hn, _⟩ := I'.loc
  exact ⟨m, hn, fun h' hs' => ⟨.ref s2.heap.objs.size, H', blk_out I2 f2 I' hs', rfl, q⟩⟩
theorem ps_setLC {i : Nat} {y : Str} {py spos : Pos} (hN : X.N.Nodup) (hiN : X.N[i]? = some y) (hy : Loc X.env.scope y) (B : Blk X scope ts cap cl) (hc : X.calm = true) (hi : PI X tg iter wi) (hg : ∀ C s H fp, PG (X.blk scope cl ts cap C s H fp) tg g)
    (ht : ∀ C s H fp, PIfs (X.blk scope cl ts cap C s H fp) ifs tt) (he : ∀ C s H fp, PE (X.blk scope cl ts cap C s H fp) elt te)
    (hsw : swapsWith (.ListComp elt [⟨tg, iter, ifs, 0⟩] scope pos) (some (.Name y py)) spos.line X.env = pure true := by rfl) (hfn : X.fn y = true ∨ X.env.scope.names.lookup y = some .local := by first | exact .inl rfl | exact .inr rfl | assumption)
    (hs : ∀ x, foldedSetIterable iter X.env x = pure x := by intro _; rfl) : PS X (.Assign [.Name y py] (.ListComp elt [⟨tg, iter, ifs, 0⟩] scope pos) spos) (tAsg (tLC wi ts.length cap g tt te) (gName i)) := by
  intro pins s σ H D I h
  rw [exec_Assign_Name_used _ _ _ _ hsw]
  refine wpAny_bind (wpAny_standAt (wpAny_bind ?_))
  show wpAny _ X.A (do let _ ← comprehension (.ListComp elt [⟨tg, iter, ifs, 0⟩] scope pos) scope X.env _ (newList []) false (eval iter X.env) (some (assign (.Name y py) X.env))) _ _ s
  refine wpAny_bind (wpAny_mono (wpAny_comprehension_free (use := some (assign (.Name y py) X.env)) (Q := fun _ s' => SP X pins D .next s') rfl hs B.clos B.kind B.names
    (thn (hi pins s σ H _ I h) fun v s1 h1 => thn h1 fun itv s2 h2 => ?_)) (fun _ s' hq => wpAny_pure (wpAny_pure hq)) fun _ _ e => e)
  obtain ⟨it, fp, tn, J, H2, e, I2, T, st2, f2, hw⟩ := h2
  subst e
  refine run_blk (Q := fun x H1 => D.nx (σ.set i (some x)) H1) (RR := fun acc C => compPost (model X.prog X.w) X.A X.xe (some (assign (.Name y py) X.env)) (fun _ s' => SP X pins D .next s') acc C) B hc hg ht he I2 T st2 f2 hw ?_
  intro pl σ' H' s' I' q
  show wpAny _ X.A (assign (.Name y py) X.env (.ref s2.heap.objs.size)) _ _ _
  have I3 : Inv X pins σ H' s' := blk_out I2 f2 I' (Heap.SameBut.refl _ _)
  have hC : H' (s2.heap.objs.size + 1) = none := I'.free
  have cellLt : ∀ x c, X.env.cells.lookup x = some c → c < s2.heap.objs.size := fun x c e => by
    obtain ⟨v, q⟩ := I2.cell x c e
    exact q.lt
  refine wpAny_assign_Name (store_ok2 (v := .ref s2.heap.objs.size) I3 hN hiN hy rfl (fun s4 I4 ch => ?_) hfn)
  obtain ⟨a, sb, ha⟩ := ch
  have na : s2.heap.objs.size + 1 ≠ a := by
    rcases ha with z | z
    · rw [z]; exact Nat.ne_of_gt (Nat.lt_succ_of_lt I2.lt)
    · exact Nat.ne_of_gt (Nat.lt_succ_of_lt (cellLt y a z))
  obtain ⟨m, hn, _⟩ := I'.loc
  have hn : s'.heap.Ns (s2.heap.objs.size + 1) m := hn
  refine ⟨m, hn.sameBut sb na, fun h' hs' => ⟨_, H', I4.turned (t' := s4.toks) (it := s2.heap.objs.size + 1) (fun b o hb e => (hs'.2 b hb).trans e) hC (Nat.ne_of_gt (Nat.lt_succ_of_lt I2.lt)) (.inr (Nat.le_trans I2.sz (Nat.le_succ _))) (fun x c e => Nat.ne_of_lt (Nat.lt_succ_of_lt (cellLt x c e))) (fun p hp => ?_), q⟩⟩
  exact Nat.ne_of_lt (Nat.lt_succ_of_lt (Heap.lt_size (I2.pin p hp).1))
end

theorem lc_list {K : PySem.W.Frag} {a : Addr} {xs : List V} {g : TG} {tt : TT} {te : TE} {σ0 : St} {H : Hp} {D : Addr} {Qd : Hp → Prop} (Pv : Nat → St → List V → Hp → Prop) (h0 : Pv 0 σ0 [] (upd H D (.lst []))) (hl : ∀ i σ ys H, i ≤ xs.length → Pv i σ ys H → SqL K H a xs)
    (hs : ∀ i x σ ys H2, xs[i]? = some x → Pv i σ ys H2 → g x σ H2 fun σ4 H4 => tt σ4 H4 fun b H5 =>
      if b = true then te σ4 H5 fun y H6 => H6 D = some (.lst ys) ∧ ys.length < sizeLine ∧ Pv (i + 1) σ4 (ys ++ [y]) (upd H6 D (.lst (ys ++ [y])))
      else Pv (i + 1) σ4 ys H5)
    (hd : ∀ σ ys H, Pv xs.length σ ys H → Qd H) :
    ∃ W : Nat → Nat → St → List V → Hp → Prop, (∃ m, W 0 m σ0 [] (upd H D (.lst []))) ∧ ∀ i m σ' ys H2, W i m σ' ys H2 →
    ((Itl K a).stop i H2 ∧ Qd H2) ∨ ((Itl K a).go i H2 ∧ ∃ N : St → List V → Hp → Prop, (∀ σ ys H, N σ ys H → ∃ m', m' < m ∧ W (i + 1) m' σ ys H) ∧ ∀ x H3, (Itl K a).yld i H2 x H3 → g x σ' H3 fun σ4 H4 => tt σ4 H4 fun b H5 =>
      if b = true then te σ4 H5 fun y H6 => H6 D = some (.lst ys) ∧ ys.length < sizeLine ∧ N σ4 (ys ++ [y]) (upd H6 D (.lst (ys ++ [y])))
      else N σ4 ys H5) := by
  refine ⟨fun i m σ ys H => m = xs.length - i ∧ i ≤ xs.length ∧ Pv i σ ys H, ⟨xs.length, by simp, Nat.zero_le _, h0⟩, ?_⟩
  rintro i m σ ys H2 ⟨rfl, hi, p⟩
  have q := hl i σ ys H2 hi p
  by_cases hlt : i < xs.length
  · refine .inr ⟨⟨xs, xs[i], q, by simp [hlt]⟩, Pv (i + 1), fun σ' ys' H' p' => ⟨xs.length - (i + 1), by lia, rfl, hlt, p'⟩, fun x H3 y => ?_⟩
    obtain ⟨e, y⟩ := y
    subst e
    exact hs i x σ ys _ (y xs q) p
  · have e : i = xs.length := by lia
    subst e
    exact .inl ⟨⟨xs, q, Nat.le_refl _⟩, hd σ ys H2 p⟩
theorem lc_range {lo : Int} {n : Nat} {g : TG} {tt : TT} {te : TE} {σ0 : St} {H : Hp} {D : Addr} {Qd : Hp → Prop} (Pv : Nat → St → List V → Hp → Prop) (h0 : Pv 0 σ0 [] (upd H D (.lst [])))
    (hs : ∀ i σ ys H2, i < n → Pv i σ ys H2 → g (.int (lo + i)) σ H2 fun σ4 H4 => tt σ4 H4 fun b H5 =>
      if b = true then te σ4 H5 fun y H6 => H6 D = some (.lst ys) ∧ ys.length < sizeLine ∧ Pv (i + 1) σ4 (ys ++ [y]) (upd H6 D (.lst (ys ++ [y])))
      else Pv (i + 1) σ4 ys H5)
    (hd : ∀ σ ys H, Pv n σ ys H → Qd H) :
    ∃ W : Nat → Nat → St → List V → Hp → Prop, (∃ m, W 0 m σ0 [] (upd H D (.lst []))) ∧ ∀ i m σ' ys H2, W i m σ' ys H2 →
    ((Itr lo n).stop i H2 ∧ Qd H2) ∨ ((Itr lo n).go i H2 ∧ ∃ N : St → List V → Hp → Prop, (∀ σ ys H, N σ ys H → ∃ m', m' < m ∧ W (i + 1) m' σ ys H) ∧ ∀ x H3, (Itr lo n).yld i H2 x H3 → g x σ' H3 fun σ4 H4 => tt σ4 H4 fun b H5 =>
      if b = true then te σ4 H5 fun y H6 => H6 D = some (.lst ys) ∧ ys.length < sizeLine ∧ N σ4 (ys ++ [y]) (upd H6 D (.lst (ys ++ [y])))
      else N σ4 ys H5) := by
  refine ⟨fun i m σ ys H => m = n - i ∧ i ≤ n ∧ Pv i σ ys H, ⟨n, by simp, Nat.zero_le _, h0⟩, ?_⟩
  rintro i m σ ys H2 ⟨rfl, hi, p⟩
  by_cases hlt : i < n
  · refine .inr ⟨hlt, Pv (i + 1), fun σ' ys' H' p' => ⟨n - (i + 1), by lia, rfl, hlt, p'⟩, fun x H3 y => ?_⟩
    obtain ⟨e, y⟩ := y
    subst e y
    exact hs i σ ys _ hlt p
  · have e : i = n := by lia
    subst e
    exact .inl ⟨Nat.le_refl _, hd σ ys H2 p⟩
end L2

set_option Elab.async false
set_option linter.all false
set_option maxRecDepth 100000
set_option maxHeartbeats 4000000
namespace L2
open PySem PySem.Spec PyProof.Rows

structure EqOk (X : Cx) (d : Nat) {α : Type} [DecidableEq α] (M : Hp → V → α → Prop) : Prop where
  eq : ∀ (pins : List (Addr × Obj)) (σ : St) (H : Hp) (s : Shared) (A : Around) (x y : V) (a b : α) (u v : Value), Inv X pins σ H s → A.units + d < cLine → M H x a → M H y b → RelV x u → RelV y v → SeqAt.EqAt A s u v (decide (a = b))
  fn : ∀ (pins : List (Addr × Obj)) (σ : St) (H : Hp) (s : Shared) (x : V) (a b : α), Inv X pins σ H s → M H x a → M H x b → a = b
noncomputable def plainV : V → Bool
  | .non => true
  | .int _ => true
  | .str _ => true
  | _ => false
noncomputable def MFl (_ : Hp) (x a : V) : Prop := x = a ∧ plainV a = true
theorem plain_flat {x : V} (h : plainV x = true) : flatV x = true := by cases x <;> first | rfl | exact absurd (show false = true from h) Bool.false_ne_true
theorem eqV_plain {x y : V} (hx : plainV x = true) (hy : plainV y = true) : eqV x y = decide (x = y) := by
  cases x with
  | non => cases y with
    | non => rfl
    | int _ => rfl
    | str _ => rfl
    | _ => exact absurd (show false = true from hy) Bool.false_ne_true
  | int i => cases y with
    | non => rfl
    | int j => rw [dec_int]; rfl
    | str _ => rfl
    | _ => exact absurd (show false = true from hy) Bool.false_ne_true
  | str i => cases y with
    | non => rfl
    | int j => rfl
    | str j => rw [dec_str]; rfl
    | _ => exact absurd (show false = true from hy) Bool.false_ne_true
  | _ => exact absurd (show false = true from hx) Bool.false_ne_true
theorem EqOk.flat {X : Cx} : EqOk X 0 MFl where
  eq := fun pins σ H s A x y a b u v I hu hx hy rx ry => by
    obtain ⟨e1, p1⟩ := hx
    obtain ⟨e2, p2⟩ := hy
    subst e1; subst e2
    rw [← eqV_plain p1 p2]
    exact eqAt_V rx ry (plain_flat p1) (plain_flat p2)
  fn := fun pins σ H s x a b I h1 h2 => h1.1.symm.trans h2.1

section
variable {α : Type} [DecidableEq α]
theorem Paired.fn {β : Type} {F : β → α → Prop} (hf : ∀ x a b, F x a → F x b → a = b) {xs : List β} {as bs : List α} (h : Paired F xs as) (k : Paired F xs bs) : as = bs := by
  induction h generalizing bs with
  | nil => cases k; rfl
  | cons r t ih => cases k with
    | cons r' t' => rw [hf _ _ _ r r', ih t']
theorem Paired.get {β γ : Type} {F : β → γ → Prop} : ∀ {xs : List β} {as : List γ} {i : Nat} {x : β}, Paired F xs as → xs[i]? = some x → ∃ a, as[i]? = some a ∧ F x a
  | _, _, _, _, .nil, e => by simp at e
  | _, _, 0, _, .cons r _, e => by simp at e; subst e; exact ⟨_, rfl, r⟩
  | _, _, i + 1, x, .cons _ t, e => by
    obtain ⟨u, h1, h2⟩ := Paired.get (i := i) (x := x) t (by simpa using e)
    exact ⟨u, by simpa using h1, h2⟩
theorem Paired.getR {β γ : Type} {F : β → γ → Prop} : ∀ {xs : List β} {as : List γ} {i : Nat} {a : γ}, Paired F xs as → as[i]? = some a → ∃ x, xs[i]? = some x ∧ F x a
  | _, _, _, _, .nil, e => by simp at e
  | _, _, 0, _, .cons r _, e => by simp at e; subst e; exact ⟨_, rfl, r⟩
  | _, _, i + 1, x, .cons _ t, e => by
    obtain ⟨u, h1, h2⟩ := Paired.getR (i := i) (a := x) t (by simpa using e)
    exact ⟨u, by simpa using h1, h2⟩
theorem all_eq {as bs : List α} (h : as.length = bs.length) : ((List.range as.length).all fun j => decide (as[j]? = bs[j]?)) = decide (as = bs) := by
  rw [Bool.eq_iff_iff, List.all_eq_true]
  constructor
  · intro q
    refine decide_eq_true (List.ext_getElem? fun i => ?_)
    by_cases hi : i < as.length
    · exact of_decide_eq_true (q i (List.mem_range.mpr hi))
    · rw [List.getElem?_eq_none (by lia), List.getElem?_eq_none (by lia)]
  · intro q i _
    rw [of_decide_eq_true q]
    exact decide_eq_true rfl
theorem all_eqMin {as bs : List α} : (((List.range (min as.length bs.length)).all fun j => decide (as[j]? = bs[j]?)) && as.length == bs.length) = decide (as = bs) := by
  by_cases h : as.length = bs.length
  · have e : min as.length bs.length = as.length := by lia
    rw [e, all_eq h, h]
    simp
  · have n : ¬ as = bs := fun e => h (by rw [e])
    rw [decide_eq_false n]
    have : (as.length == bs.length) = false := by simpa using h
    rw [this, Bool.and_false]
end

noncomputable def MTup {α : Type} (K : PySem.W.Frag) (M : Hp → V → α → Prop) (H : Hp) (x : V) (as : List α) : Prop := ∃ p xs, x = .ref p ∧ SqT K H p xs ∧ Paired (M H) xs as
noncomputable def MLst {α : Type} (K : PySem.W.Frag) (M : Hp → V → α → Prop) (H : Hp) (x : V) (as : List α) : Prop := ∃ p xs, x = .ref p ∧ SqL K H p xs ∧ Paired (M H) xs as

section
variable {X : Cx} {d : Nat} {α : Type} [DecidableEq α] {M : Hp → V → α → Prop}
theorem EqOk.items (E : EqOk X d M) {pins : List (Addr × Obj)} {σ : St} {H : Hp} {s : Shared} {A : Around} {xs ys : List V} {as bs : List α} {us vs : List Value} (I : Inv X pins σ H s) (hu : A.units + (d + 1) < cLine) (r1 : Vals xs us) (r2 : Vals ys vs) (m1 : Paired (M H) xs as) (m2 : Paired (M H) ys bs) :
    ∀ j (h1 : j < us.toArray.size) (h2 : j < vs.toArray.size), SeqAt.EqAt A.in1 s us.toArray[j] vs.toArray[j] (decide (as[j]? = bs[j]?)) := by
  intro j h1 h2
  have l1 := r1.length
  have l2 := r2.length
  have h1' : j < us.length := by simpa using h1
  have h2' : j < vs.length := by simpa using h2
  obtain ⟨u, eu, ru⟩ := r1.get (i := j) (x := xs[j]'(by lia)) (by simp)
  obtain ⟨v, ev, rv⟩ := r2.get (i := j) (x := ys[j]'(by lia)) (by simp)
  obtain ⟨a, ea, ma⟩ := Paired.get (i := j) (x := xs[j]'(by lia)) m1 (by simp)
  obtain ⟨b, eb, mb⟩ := Paired.get (i := j) (x := ys[j]'(by lia)) m2 (by simp)
  have e1 : us.toArray[j] = u := by
    have : us[j]? = some us[j] := List.getElem?_eq_getElem h1'
    rw [this] at eu
    simpa using Option.some.inj eu
  have e2 : vs.toArray[j] = v := by
    have : vs[j]? = some vs[j] := List.getElem?_eq_getElem h2'
    rw [this] at ev
    simpa using Option.some.inj ev
  have e3 : decide (as[j]? = bs[j]?) = decide (a = b) := by
    rw [ea, eb]
    exact decide_eq_decide.mpr ⟨fun q => Option.some.inj q, fun q => congrArg some q⟩
  rw [e1, e2, e3]
  exact E.eq pins σ H s A.in1 _ _ a b u v I (by show A.units + 1 + d < cLine; lia) ma mb ru rv
theorem EqOk.rcT (E : EqOk X d M) {pins : List (Addr × Obj)} {σ : St} {H : Hp} {s : Shared} {A : Around} {p q : Addr} {xs ys : List V} {as bs : List α} (I : Inv X pins σ H s) (hu : A.units + (d + 1) < cLine) (h1 : SqT X.K H p xs) (h2 : SqT X.K H q ys) (m1 : Paired (M H) xs as) (m2 : Paired (M H) ys bs) :
    SeqAt.RcAt A s (.ref p) (.ref q) (decide (as = bs)) ∧ SeqAt.RcNeAt A s (.ref p) (.ref q) (!decide (as = bs)) := by
  obtain ⟨us, r1, t1, _⟩ := I.tuple h1
  obtain ⟨vs, r2, t2, _⟩ := I.tuple h2
  have it := E.items I hu r1 r2 m1 m2
  have l1 : us.toArray.size = as.length := by rw [List.size_toArray, ← r1.length, Paired.length m1]
  have l2 : vs.toArray.size = bs.length := by rw [List.size_toArray, ← r2.length, Paired.length m2]
  have z1 := SeqAt.RcAt.tuples (A := A) (s := s) (show s.heap.IsTuple p us.toArray from t1) (show s.heap.IsTuple q vs.toArray from t2) (by lia) it
  have z2 := SeqAt.RcNeAt.tuples (A := A) (s := s) (show s.heap.IsTuple p us.toArray from t1) (show s.heap.IsTuple q vs.toArray from t2) (by lia) it
  rw [l1, l2, all_eqMin] at z1 z2
  exact ⟨z1, z2⟩
theorem EqOk.rcL (E : EqOk X d M) {pins : List (Addr × Obj)} {σ : St} {H : Hp} {s : Shared} {A : Around} {p q : Addr} {xs ys : List V} {as bs : List α} (I : Inv X pins σ H s) (hu : A.units + (d + 1) < cLine) (h1 : SqL X.K H p xs) (h2 : SqL X.K H q ys) (m1 : Paired (M H) xs as) (m2 : Paired (M H) ys bs) :
    SeqAt.RcAt A s (.ref p) (.ref q) (decide (as = bs)) ∧ SeqAt.RcNeAt A s (.ref p) (.ref q) (!decide (as = bs)) := by
  obtain ⟨us, r1, t1, _⟩ := I.list h1
  obtain ⟨vs, r2, t2, _⟩ := I.list h2
  have it := E.items I hu r1 r2 m1 m2
  have l1 : us.toArray.size = as.length := by rw [List.size_toArray, ← r1.length, Paired.length m1]
  have l2 : vs.toArray.size = bs.length := by rw [List.size_toArray, ← r2.length, Paired.length m2]
  by_cases h : as.length = bs.length
  · have z1 := SeqAt.RcAt.lists (A := A) (s := s) t1.isList t2.isList (by rw [l1, l2, h]) (by lia) it
    have z2 := SeqAt.RcNeAt.lists (A := A) (s := s) t1.isList t2.isList (by rw [l1, l2, h]) (by lia) it
    rw [l1, all_eq h] at z1 z2
    exact ⟨z1, z2⟩
  · have n : ¬ as = bs := fun e => h (by rw [e])
    rw [decide_eq_false n]
    exact ⟨SeqAt.RcAt.lists_lengths t1.isList t2.isList (by rw [l1, l2]; simpa using h) (by lia), SeqAt.RcNeAt.lists_lengths t1.isList t2.isList (by rw [l1, l2]; simpa using h) (by lia)⟩
theorem EqOk.tup (E : EqOk X d M) : EqOk X (d + 1) (MTup X.K M) where
  eq := fun pins σ H s A x y as bs u v I hu hx hy rx ry => by
    obtain ⟨p, xs, e1, h1, m1⟩ := hx
    obtain ⟨q, ys, e2, h2, m2⟩ := hy
    subst e1; subst e2
    cases rx; cases ry
    by_cases e : p = q
    · subst e
      have ex := I.tuple_inj h1 h2
      subst ex
      have ea := Paired.fn (fun x a b => E.fn pins σ H s x a b I) m1 m2
      rw [decide_eq_true ea]
      exact SeqAt.EqAt.same _
    · exact SeqAt.EqAt.of_refs e (E.rcT I hu h1 h2 m1 m2).1
  fn := fun pins σ H s x as bs I hx hy => by
    obtain ⟨p, xs, e1, h1, m1⟩ := hx
    obtain ⟨q, ys, e2, h2, m2⟩ := hy
    subst e1
    cases e2
    have ex := I.tuple_inj h1 h2
    subst ex
    exact Paired.fn (fun x a b => E.fn pins σ H s x a b I) m1 m2
theorem EqOk.lst (E : EqOk X d M) : EqOk X (d + 1) (MLst X.K M) where
  eq := fun pins σ H s A x y as bs u v I hu hx hy rx ry => by
    obtain ⟨p, xs, e1, h1, m1⟩ := hx
    obtain ⟨q, ys, e2, h2, m2⟩ := hy
    subst e1; subst e2
    cases rx; cases ry
    by_cases e : p = q
    · subst e
      have ex := I.list_inj h1 h2
      subst ex
      have ea := Paired.fn (fun x a b => E.fn pins σ H s x a b I) m1 m2
      rw [decide_eq_true ea]
      exact SeqAt.EqAt.same _
    · exact SeqAt.EqAt.of_refs e (E.rcL I hu h1 h2 m1 m2).1
  fn := fun pins σ H s x as bs I hx hy => by
    obtain ⟨p, xs, e1, h1, m1⟩ := hx
    obtain ⟨q, ys, e2, h2, m2⟩ := hy
    subst e1
    cases e2
    have ex := I.list_inj h1 h2
    subst ex
    exact Paired.fn (fun x a b => E.fn pins σ H s x a b I) m1 m2
inductive rEqMP (M : Hp → V → α → Prop) (x : V) (y : V) (H : Hp) (Q : VK) : Prop
  | mk (a : _) (b : _) (h_0 : M H x a) (h_1 : M H y b) (h_2 : Q (.bl (decide (a = b))) H)
noncomputable def rEqM (M : Hp → V → α → Prop) : R2 := fun x y H Q => rEqMP M x y H Q
theorem op_eqL (E : EqOk X d M) (hu : X.A.units + (d + 1) < cLine) : OpR X (compareOp .Eq) (rEqM (MLst X.K M)) := by
  intro pins s σ H x y v u Q I rx ry h
  obtain ⟨as, bs, ⟨p, xs, e1, h1, m1⟩, ⟨q, ys, e2, h2, m2⟩, hq⟩ := h
  subst e1; subst e2
  cases rx; cases ry
  exact (E.rcL I hu h1 h2 m1 m2).1 _ _ _ _ ⟨.bl _, H, I, rfl, hq⟩

open Classical in
noncomputable def meanIs (M : Hp → V → α → Prop) (H : Hp) (a : α) (u : Value) : Bool := decide (∃ z, RelV z u ∧ M H z a)
theorem meanIs_of (E : EqOk X d M) {pins : List (Addr × Obj)} {σ : St} {H : Hp} {s : Shared} (I : Inv X pins σ H s) {a b : α} {x : V} {u : Value} (r : RelV x u) (m : M H x b) : meanIs M H a u = decide (b = a) := by
  unfold meanIs
  by_cases e : b = a
  · subst e
    rw [decide_eq_true (p := b = b) rfl]
    exact @decide_eq_true _ (_) ⟨x, r, m⟩
  · rw [decide_eq_false e]
    refine @decide_eq_false _ (_) ?_
    rintro ⟨z, rz, mz⟩
    have : z = x := rz.inj r
    subst this
    exact e (E.fn pins σ H s z b a I m mz)
theorem meanIs_any (E : EqOk X d M) {pins : List (Addr × Obj)} {σ : St} {H : Hp} {s : Shared} (I : Inv X pins σ H s) {a : α} {xs : List V} {us : List Value} {as : List α} (rv : Vals xs us) (mv : Paired (M H) xs as) : us.any (meanIs M H a) = decide (a ∈ as) ∧ us.countP (meanIs M H a) = as.countP fun b => decide (b = a) := by
  induction rv generalizing as with
  | nil => cases mv; exact ⟨by simp, rfl⟩
  | cons r rr ih => cases mv with
   | cons m mm =>
    obtain ⟨h1, h2⟩ := ih mm
    have e := meanIs_of E I (a := a) r m
    constructor
    · rw [List.any_cons, h1, e, Bool.eq_iff_iff]
      simp only [Bool.or_eq_true, decide_eq_true_eq, List.mem_cons]
      exact ⟨fun q => q.elim (fun q => .inl q.symm) .inr, fun q => q.elim (fun q => .inl q.symm) .inr⟩
    · rw [List.countP_cons, List.countP_cons, h2, e]
theorem meanIs_at (E : EqOk X d M) {pins : List (Addr × Obj)} {σ : St} {H : Hp} {s : Shared} (I : Inv X pins σ H s) {A : Around} (hu : A.units + d < cLine) {a : α} {y : V} {v : Value} (ry : RelV y v) (my : M H y a) {xs : List V} {us : List Value} {as : List α} (rv : Vals xs us) (mv : Paired (M H) xs as) : ∀ u ∈ us, SeqAt.EqAt A s u v (meanIs M H a u) := by
  induction rv generalizing as with
  | nil => intro u hu; cases hu
  | @cons x u xs us r rr ih => cases mv with
   | @cons _ b _ as m mm =>
    intro u' hu'
    rcases List.mem_cons.mp hu' with e | e
    · subst e
      rw [meanIs_of E I (a := a) r m]
      exact E.eq pins σ H s A x y b a _ v I hu m my r ry
    · exact ih mm u' e
inductive rCountMP (K : PySem.W.Frag) (M : Hp → V → α → Prop) (x : V) (vs : List V) (H : Hp) (Q : VK) : Prop
  | mk (y : _) (a : _) (as : _) (h_0 : vs = [y]) (h_1 : M H y a) (h_2 : MLst K M H x as) (h_3 : Q (.int (as.countP fun b => decide (b = a) : Nat)) H)
noncomputable def rCountM (K : PySem.W.Frag) (M : Hp → V → α → Prop) : V → List V → Hp → VK → Prop := fun x vs H Q => rCountMP K M x vs H Q
theorem mt_count (E : EqOk X d M) (hu : X.A.units + (d + 1) < cLine) : MtM X "list.count" (rCountM X.K M) := by
  intro pins s σ H x vs v us Q I rx rv h
  obtain ⟨y, a, as, e0, my, ⟨p, xs, e1, h1, m1⟩, hq⟩ := h
  subst e0; subst e1
  cases rx
  obtain ⟨u, e2, ry⟩ := rv.one
  subst e2
  obtain ⟨ws, r1, ⟨o, n, ho, hc, hdd, hd⟩, _⟩ := I.list h1
  obtain ⟨cls, dct, data, sl⟩ := o
  simp only at hc hd hdd
  subst hc hd hdd
  refine call_meets F.slot_list_count ⟨_, ho, rfl⟩ F.entry_list_count (F.args_list_count_2 _ _) (SeqAt.list_countAt p ws.toArray n none sl u (meanIs M H a)) ⟨ho, fun y hy => ?_, ?_⟩
  · exact meanIs_at E I (by show _ + _ < cLine; first | (show X.A.units + 1 + d < cLine; lia) | (show X.A.units + 1 + 1 + d < cLine; lia)) ry my r1 m1 y (by simpa using hy)
  · refine ⟨.int (as.countP fun b => decide (b = a) : Nat), H, I.tok _, ⟨s.toks, ?_⟩, hq⟩
    show Value.int _ _ = Value.int _ _
    rw [← (meanIs_any E I (a := a) r1 m1).2]
end

noncomputable def Itk (a : Addr) (o : Obj) (kvs : List (Key × V)) : It := ⟨fun i H => i < kvs.length ∧ H a = some (.frz o (.dK kvs)), fun i H x H' => H' = H ∧ ∃ p, kvs[i]? = some p ∧ x = kV p.1, fun i H => kvs.length ≤ i ∧ H a = some (.frz o (.dK kvs))⟩
theorem kV_of {P : Program} {w : World} {k : Key} {u : Value} (h : (mixKind P w).is k u = true) : RelV (kV k) u := by
  rcases keyIs_shape h with ⟨i, t, rfl, rfl⟩ | ⟨x, t, rfl, rfl⟩
  · exact ⟨t, rfl⟩
  · exact ⟨t, rfl⟩
theorem KV.getR {kvs : List (Key × V)} {vs : List (Key × Value)} (r : KV kvs vs) {i : Nat} {p : Key × V} (e : kvs[i]? = some p) : ∃ q, vs[i]? = some q ∧ q.1 = p.1 := by
  obtain ⟨q, h1, h2⟩ := Paired.get (F := fun (p : Key × V) (q : Key × Value) => p.1 = q.1 ∧ RelV p.2 q.2) r e
  exact ⟨q, h1, h2.1.symm⟩
theorem dictAt_of {P : Program} {w : World} {h : Heap} {a : Addr} {o : Obj} {es : Array DictEntry} {ep : Nat} {vs : List (Key × Value)} (ho : h.get? a = some o) (hd : o.data = .dict es ep) (D : h.DictOf (mixKind P w) a vs) : h.DictAt (mixKind P w) a vs ep := by
  obtain ⟨o', es', ep', h1, h2, h3, h4⟩ := D
  rw [ho] at h1
  cases h1
  rw [hd] at h3
  cases h3
  exact ⟨o, es, ho, h2, hd, h4⟩
theorem turn_dkeys {P : Program} {w : World} {K : PySem.W.Frag} {tg : Expr} (a it : Addr) (o : Obj) (es : Array DictEntry) (ep : Nat) (hd : o.data = .dict es ep) (kvs : List (Key × V)) : Turn P w K tg (Itk a o kvs) [it] it (fun i h => h.IsKeyIter it a i kvs.length ep) where
  mem := by simp
  obj := fun i h st b hb => by
    have e : b = it := by simpa using hb
    subst e
    obtain ⟨o, e, c, d⟩ := st
    exact ⟨o, e, fun v z => by rw [d] at z; cases z⟩
  keep := fun i h h' st k => st.at fun o e => k it (by simp) o e
  item := by
    intro X hP hw hK hc i pins s σ H E I hf st hg
    subst hP hw hK
    obtain ⟨hi, hH⟩ := hg
    obtain ⟨ho, _, _, vs, rel, dd⟩ := (show ObjOk X.prog X.w H s.heap a (.frz o (.dK kvs)) from I.hok a _ hH)
    have hl := rel.length
    obtain ⟨q, hq, hq1⟩ := rel.getR (i := i) (p := kvs[i]) (by simp)
    obtain ⟨f0, f1, f2, f3, f4, f5⟩ := hf it (by simp)
    refine wpAny_pyNext_dict_item (k := q.1) (v := q.2) (kvs := vs) (hl ▸ st) (dictAt_of ho hd dd) hq fun key h' hk st' sb => ?_
    have I1 : Inv X pins σ H { s with heap := h' } := I.turned (t' := s.toks) (fun b o hb e => (sb.2 b hb).trans e) f0 f1 f3 f4 f5
    obtain ⟨oi, e, c, d⟩ := id st'
    refine ⟨key, rfl, go_of (s := { s with heap := h' }) e c d (by decide) ⟨kV kvs[i].1, H, I1, ?_, ⟨rfl, kvs[i], by simp, rfl⟩, hl ▸ st', fun b hb => (hf b hb).1⟩⟩
    rw [← hq1]
    exact kV_of hk
  done := by
    intro X hP hw hK hc i pins s σ H E I hf st hg
    subst hP hw hK
    obtain ⟨hi, hH⟩ := hg
    obtain ⟨ho, _, _, vs, rel, dd⟩ := (show ObjOk X.prog X.w H s.heap a (.frz o (.dK kvs)) from I.hok a _ hH)
    have hl := rel.length
    obtain ⟨f0, f1, f2, f3, f4, f5⟩ := hf it (by simp)
    exact wpAny_pyNext_dict_end (kvs := vs) (I.ok.hd hc) (hl ▸ st) (dictAt_of ho hd dd) (List.getElem?_eq_none (by lia)) fun h' eb => ⟨rfl, I.turned (t' := s.toks) (fun b o hb e => eb b o hb e) f0 f1 f3 f4 f5⟩
  self := fun _ _ _ _ _ st h => wpAny_pyIter_keyiter st h
section
variable {X : Cx} {tg : Expr}
theorem Inv.freeze {pins : List (Addr × Obj)} {σ : St} {H : Hp} {s : Shared} {a : Addr} {kvs : List (Key × V)} {o : Obj} (I : Inv X pins σ H s) (e : H a = some (.dK kvs)) (ho : s.heap.get? a = some o) : Inv X pins σ (upd H a (.frz o (.dK kvs))) s := by
  have nt : ∀ b u, H b = some u → (∀ z, u ≠ .dK z) → b ≠ a := fun b u q n z => by rw [z, e] at q; cases q; exact n _ rfl
  refine I.un (t' := s.toks) (h' := s.heap) ⟨fun b u q _ _ _ => q, fun b u q _ _ _ => ⟨u.slots, q⟩, fun b u q n _ => ?_, fun b u q _ => ⟨u, q⟩, fun b xs q => ?_, fun b u v q => ?_, fun b ps q => ⟨#[], ?_⟩⟩ (fun b u q => ?_)
  · rw [upd_ne (by rintro rfl; rw [n] at e; cases e)]; exact n
  · rw [upd_ne (nt b _ q (fun _ z => nomatch z))]; exact q
  · rw [upd_ne (nt b _ q (fun _ z => nomatch z))]; exact q
  · rw [upd_ne (nt b _ q (fun _ z => nomatch z)), q]; simp
  · by_cases hb : b = a
    · subst hb
      rw [upd_same] at q
      cases q
      refine ⟨ho, (I.hok _ _ e).stay (fun _ _ _ q => q) (fun c q => ?_) fun c xs q => ?_⟩
      · rw [upd_ne (nt c _ q (fun _ z => nomatch z))]; exact q
      · rw [upd_ne (nt c _ q (fun _ z => nomatch z))]; exact q
    · rw [upd_ne hb] at q
      refine (I.hok _ _ q).stay (fun _ _ _ q => q) (fun c q => ?_) fun c xs q => ?_
      · rw [upd_ne (nt c _ q (fun _ z => nomatch z))]; exact q
      · rw [upd_ne (nt c _ q (fun _ z => nomatch z))]; exact q
noncomputable def iDK (td : TE) : TI := fun σ H R => td σ H fun x H1 => ∃ a kvs, x = .ref a ∧ H1 a = some (.dK kvs) ∧ ∀ o, R (Itk a o kvs) (upd H1 a (.frz o (.dK kvs)))
theorem pi_dkeys {l : Expr} {tl : TE} (hl : PE X l tl) : PI X tg l (iDK tl) := by
  intro pins s σ H R I h
  refine thn (hl pins s σ H _ I h) fun v s1 z_ => ?_
  obtain ⟨x, H1, I1, r1, q1⟩ := z_
  obtain ⟨a, kvs, e, hH, q⟩ := q1
  subst e
  cases r1
  obtain ⟨_, hsys, vs, rel, dd⟩ := dk_of I1.hok hH
  obtain ⟨o, es, ep, ho, h2, h3, h4⟩ := id dd
  have I2 := I1.freeze hH ho
  refine wpAny_pyIter_dict hsys (dictAt_of ho h3 dd) ?_
  refine ⟨s1.heap.objs.size, [s1.heap.objs.size], _, _, upd H1 a (.frz o (.dK kvs)), rfl, I2.kept (t' := s1.toks) fun b o e => Heap.get?_push_of_some _ e, turn_dkeys a _ o es ep h3 kvs, ⟨_, Heap.get?_push_size _ rfl, rfl, ?_⟩, fun b hb => ?_, q o⟩
  · rw [rel.length]; rfl
  · have e : b = s1.heap.objs.size := by simpa using hb
    subst e
    exact I2.fpOk (Nat.le_refl _) (I2.hok.fresh (Nat.le_refl _))
end
theorem for_dkeys {a : Addr} {o : Obj} {kvs : List (Key × V)} {g : TG} {tb : TS} {D : Ends} {σ : St} {H : Hp} (Pv : Nat → St → Hp → Prop) (h0 : Pv 0 σ H) (hl : ∀ i σ H, i ≤ kvs.length → Pv i σ H → H a = some (.frz o (.dK kvs)))
    (hs : ∀ i p σ H, kvs[i]? = some p → Pv i σ H → g (kV p.1) σ H fun σ2 H2 => tb (D.lp (Pv (i + 1))) σ2 H2) (hd : ∀ σ H, Pv kvs.length σ H → D.nx σ H) :
    ∃ W : Nat → Nat → St → Hp → Prop, (∃ m, W 0 m σ H) ∧ ∀ i m σ H, W i m σ H →
      ((Itk a o kvs).stop i H ∧ D.nx σ H) ∨ ((Itk a o kvs).go i H ∧ ∃ N : St → Hp → Prop, (∀ σ' H', N σ' H' → ∃ m', m' < m ∧ W (i + 1) m' σ' H') ∧ ∀ x H', (Itk a o kvs).yld i H x H' → g x σ H' fun σ2 H2 => tb (D.lp N) σ2 H2) := by
  refine ⟨fun i m σ H => m = kvs.length - i ∧ i ≤ kvs.length ∧ Pv i σ H, ⟨kvs.length, by simp, Nat.zero_le _, h0⟩, ?_⟩
  rintro i m σ H ⟨rfl, hi, p⟩
  have q := hl i σ H hi p
  by_cases hlt : i < kvs.length
  · refine .inr ⟨⟨hlt, q⟩, Pv (i + 1), fun σ' H' p' => ⟨kvs.length - (i + 1), by lia, rfl, hlt, p'⟩, fun x H' y => ?_⟩
    obtain ⟨e, z, e1, e2⟩ := y
    subst e; subst e2
    exact hs i z σ _ e1 p
  · have e : i = kvs.length := by lia
    subst e
    exact .inl ⟨⟨Nat.le_refl _, q⟩, hd σ H p⟩

theorem call_isinst {X : Cx} : CallR X (.builtin "isinstance") (fun xs H Q => ∃ x c t b, xs = [x, .ty c] ∧ TyOf X.K H x t ∧ PySem.W.kitOne X.K t (.type c) = some b ∧ Q (.bl b) H) := by
  intro pins s σ H xs us Q I r h
  obtain ⟨x, c, t, b, e, ty, k, q⟩ := h
  subst e
  obtain ⟨u, v, e2, rx, rc⟩ := vals2 r
  subst e2
  cases (show v = Value.type c from rc)
  exact isinst_ok I rx ty k fun tk => ⟨.bl b, H, I.tok _, rfl, q⟩
end L2

set_option Elab.async false
set_option linter.all false
set_option maxRecDepth 100000
set_option maxHeartbeats 4000000
namespace L2
open PySem PySem.Spec PyProof.Rows
noncomputable def Sq (K : PySem.W.Frag) (H : Hp) (p : Addr) (xs : List V) : Prop := SqL K H p xs ∨ SqT K H p xs
inductive rIx2P (K : PySem.W.Frag) (x : V) (y : V) (H : Hp) (Q : VK) : Prop
  | mk (p : _) (xs : _) (i : _) (v : _) (h_0 : x = .ref p) (h_1 : y = .int i) (h_2 : Sq K H p xs) (h_3 : atI xs i = some v) (h_4 : Q v H)
noncomputable def rIx2 (K : PySem.W.Frag) : R2 := fun x y H Q => rIx2P K x y H Q
theorem ix_two {X : Cx} : IxR X (rIx2 X.K) := by
  intro value slice pins s σ H x y v u Q I rx ry h hs
  obtain ⟨p, xs, i, z, e1, e2, hq, he, q⟩ := h
  rcases hq with hq | hq
  · exact ix_list value slice pins s σ H x y v u Q I rx ry ⟨p, xs, i, z, e1, e2, hq, he, q⟩ hs
  · exact ix_tup value slice pins s σ H x y v u Q I rx ry ⟨p, xs, i, z, e1, e2, hq, he, q⟩ hs
end L2

namespace Cw
inductive Kd where
  | own | send | take
  deriving DecidableEq
structure Ev where
  k : Kd
  l : Int
  v : Int
  deriving DecidableEq
noncomputable abbrev Rows := List (List Ev)
noncomputable def at? (rs : Rows) (h p : Nat) : Option Ev := (rs[h]?).bind (·[p]?)
theorem at_row {rs : Rows} {h p : Nat} {r : List Ev} (e : rs[h]? = some r) : at? rs h p = r[p]? := by unfold at?; rw [e]; rfl
theorem at_some {rs : Rows} {h p : Nat} {e : Ev} (q : at? rs h p = some e) : ∃ r, rs[h]? = some r ∧ r[p]? = some e := by
  unfold at? at q
  cases z : rs[h]? with
  | none => rw [z] at q; cases q
  | some r => rw [z] at q; exact ⟨r, rfl, q⟩
noncomputable def Uniq (k : Kd) (rs : Rows) : Prop := ∀ (h p h' p' : Nat) (e e' : Ev), at? rs h p = some e → at? rs h' p' = some e' → e.k = k → e'.k = k → e.l = e'.l → h = h' ∧ p = p'
structure Ord (rs : Rows) (rk : Nat → Nat → Nat) : Prop where
  row : ∀ (h p : Nat) (e : Ev), at? rs h (p + 1) = some e → rk h p < rk h (p + 1)
  sent : ∀ (h p : Nat) (e : Ev), at? rs h p = some e → e.k = .take → ∃ (h' p' : Nat) (e' : Ev), at? rs h' p' = some e' ∧ e'.k = .send ∧ e'.l = e.l ∧ rk h' p' < rk h p
structure Bnd (rs : Rows) : Prop where
  lo : 1 ≤ rs.length
  hi : rs.length ≤ 4
  len : ∀ (h : Nat) (r : List Ev), rs[h]? = some r → r.length ≤ 6
  lets : ∀ (h p : Nat) (e : Ev), at? rs h p = some e → 0 ≤ e.l ∧ e.l ≤ 99
  vals : ∀ (h p : Nat) (e : Ev), at? rs h p = some e → -1000000000 ≤ e.v ∧ e.v ≤ 1000000000
  own0 : ∀ (h p : Nat) (e : Ev), at? rs h p = some e → e.k = .own → e.l = 0
structure Val (rs : Rows) : Prop where
  bnd : Bnd rs
  us : Uniq .send rs
  ut : Uniq .take rs
  ord : ∃ rk, Ord rs rk

noncomputable def app (rs : Rows) (h : Nat) (e : Ev) : Rows := rs.set h ((rs[h]?).getD [] ++ [e])
theorem app_len {rs : Rows} {h : Nat} {e : Ev} : (app rs h e).length = rs.length := by unfold app; rw [List.length_set]
theorem app_get {rs : Rows} {h : Nat} {e : Ev} {r : List Ev} (hr : rs[h]? = some r) (j : Nat) : (app rs h e)[j]? = if j = h then some (r ++ [e]) else rs[j]? := by
  have hl : h < rs.length := (List.getElem?_eq_some_iff.mp hr).1
  unfold app
  rw [hr, Option.getD_some]
  by_cases q : j = h
  · subst q
    rw [if_pos rfl, List.getElem?_set_self hl]
  · rw [if_neg q, List.getElem?_set_ne (Ne.symm q)]
theorem app_at {rs : Rows} {h : Nat} {e : Ev} {r : List Ev} (hr : rs[h]? = some r) (j p : Nat) : at? (app rs h e) j p = if j = h ∧ p = r.length then some e else at? rs j p := by
  unfold at?
  rw [app_get hr j]
  by_cases q : j = h
  · subst q
    rw [if_pos rfl, hr]
    show (r ++ [e])[p]? = _
    by_cases z : p = r.length
    · subst z
      rw [if_pos ⟨rfl, rfl⟩]; simp
    · rw [if_neg (fun w => z w.2)]
      show _ = r[p]?
      by_cases zz : p < r.length
      · rw [List.getElem?_append_left zz]
      · rw [List.getElem?_append_right (by lia)]
        have : ([e] : List Ev)[p - r.length]? = none := by
          apply List.getElem?_eq_none; simp; lia
        rw [this, List.getElem?_eq_none (by lia)]
  · rw [if_neg q, if_neg (fun w => q w.1)]
theorem app_old {rs : Rows} {h : Nat} {e : Ev} {r : List Ev} (hr : rs[h]? = some r) {j p : Nat} {e' : Ev} (q : at? rs j p = some e') : at? (app rs h e) j p = some e' := by
  rw [app_at hr, if_neg ?_]
  · exact q
  · rintro ⟨rfl, rfl⟩
    rw [at_row hr, List.getElem?_eq_none (Nat.le_refl _)] at q
    cases q
theorem app_new {rs : Rows} {h : Nat} {e : Ev} {r : List Ev} (hr : rs[h]? = some r) {j p : Nat} {e' : Ev} (q : at? (app rs h e) j p = some e') : (j = h ∧ p = r.length ∧ e' = e) ∨ at? rs j p = some e' := by
  rw [app_at hr] at q
  split at q
  · rename_i z
    exact .inl ⟨z.1, z.2, (Option.some.inj q).symm⟩
  · exact .inr q

noncomputable def Used (rs : Rows) (l : Int) : Prop := ∃ (h p : Nat) (e : Ev), at? rs h p = some e ∧ e.k ≠ .own ∧ e.l = l
structure Draw (rs : Rows) (ls : List Int) (n : Nat) : Prop where
  bnd : Bnd rs
  us : Uniq .send rs
  ut : Uniq .take rs
  ord : ∃ rk, Ord rs rk ∧ ∀ (h p : Nat) (e : Ev), at? rs h p = some e → rk h p < n
  nd : ls.Nodup
  out : ∀ l ∈ ls, (∃ (h p : Nat) (e : Ev), at? rs h p = some e ∧ e.k = .send ∧ e.l = l) ∧ ∀ (h p : Nat) (e : Ev), at? rs h p = some e → e.k = .take → e.l ≠ l
theorem Draw.val {rs : Rows} {ls : List Int} {n : Nat} (d : Draw rs ls n) : Val rs := ⟨d.bnd, d.us, d.ut, let ⟨rk, o, _⟩ := d.ord; ⟨rk, o⟩⟩
theorem Draw.start {n : Nat} (h1 : 1 ≤ n) (h2 : n ≤ 4) : Draw (List.replicate n []) [] 0 := by
  have no : ∀ (h p : Nat) (e : Ev), at? (List.replicate n ([] : List Ev)) h p = some e → False := fun h p e q => by
    obtain ⟨r, hr, he⟩ := at_some q
    rw [List.getElem?_replicate] at hr
    split at hr
    · cases hr; simp at he
    · cases hr
  refine ⟨⟨by simpa using h1, by simpa using h2, fun h r q => ?_, fun h p e q => (no h p e q).elim, fun h p e q => (no h p e q).elim, fun h p e q => (no h p e q).elim⟩, fun h p h' p' e e' q => (no h p e q).elim, fun h p h' p' e e' q => (no h p e q).elim,
    ⟨fun _ _ => 0, ⟨fun h p e q => (no _ _ _ q).elim, fun h p e q => (no _ _ _ q).elim⟩, fun h p e q => (no _ _ _ q).elim⟩, List.nodup_nil, fun l hl => by cases hl⟩
  rw [List.getElem?_replicate] at q
  split at q
  · cases q; simp
  · cases q
theorem Ord.more {rs : Rows} {rk : Nat → Nat → Nat} {n h : Nat} {r : List Ev} {e : Ev} (o : Ord rs rk) (hn : ∀ (h p : Nat) (e : Ev), at? rs h p = some e → rk h p < n) (hr : rs[h]? = some r)
    (hs : e.k = .take → ∃ (h' p' : Nat) (e' : Ev), at? rs h' p' = some e' ∧ e'.k = .send ∧ e'.l = e.l) :
    ∃ rk', Ord (app rs h e) rk' ∧ ∀ (j p : Nat) (e' : Ev), at? (app rs h e) j p = some e' → rk' j p < n + 1 := by
  have self : ∀ (j p : Nat) (e' : Ev), at? rs j p = some e' → ¬ (j = h ∧ p = r.length) := by
    rintro j p e' q ⟨rfl, rfl⟩
    rw [at_row hr, List.getElem?_eq_none (Nat.le_refl _)] at q
    cases q
  refine ⟨fun j p => if j = h ∧ p = r.length then n else rk j p, ⟨fun j p e' q => ?_, fun j p e' q hk => ?_⟩, fun j p e' q => ?_⟩
  · rcases app_new hr q with ⟨rfl, hp, rfl⟩ | q2
    · have h1 : ¬ (p = r.length) := by lia
      show (if j = j ∧ p = r.length then n else rk j p) < (if j = j ∧ p + 1 = r.length then n else rk j (p + 1))
      rw [if_neg (fun z => h1 z.2), if_pos ⟨rfl, hp⟩]
      have hlt : p < r.length := by lia
      exact hn j p (r[p]) (by rw [at_row hr]; simp [hlt])
    · show (if j = h ∧ p = r.length then n else rk j p) < (if j = h ∧ p + 1 = r.length then n else rk j (p + 1))
      have n1 : ¬ (j = h ∧ p = r.length) := by
        rintro ⟨e1, hp⟩
        rw [e1] at q2
        obtain ⟨r', hr', he'⟩ := at_some q2
        rw [hr] at hr'; cases hr'
        have := (List.getElem?_eq_some_iff.mp he').1
        lia
      rw [if_neg n1, if_neg (self _ _ _ q2)]
      exact o.row j p e' q2
  · rcases app_new hr q with ⟨rfl, hp, rfl⟩ | q
    · obtain ⟨h', p', e2, q2, k2, l2⟩ := hs hk
      refine ⟨h', p', e2, app_old hr q2, k2, l2, ?_⟩
      show (if h' = j ∧ p' = r.length then n else rk h' p') < (if j = j ∧ p = r.length then n else rk j p)
      rw [if_neg (self _ _ _ q2), if_pos ⟨rfl, hp⟩]
      exact hn _ _ _ q2
    · obtain ⟨h', p', e2, q2, k2, l2, lt⟩ := o.sent j p e' q hk
      refine ⟨h', p', e2, app_old hr q2, k2, l2, ?_⟩
      show (if h' = h ∧ p' = r.length then n else rk h' p') < (if j = h ∧ p = r.length then n else rk j p)
      rw [if_neg (self _ _ _ q2), if_neg (self _ _ _ q)]
      exact lt
  · show (if j = h ∧ p = r.length then n else rk j p) < n + 1
    rcases app_new hr q with ⟨rfl, hp, rfl⟩ | q
    · rw [if_pos ⟨rfl, hp⟩]; lia
    · rw [if_neg (self _ _ _ q)]
      have := hn _ _ _ q
      lia
theorem Bnd.more {rs : Rows} {h : Nat} {r : List Ev} {e : Ev} (b : Bnd rs) (hr : rs[h]? = some r) (hl : r.length < 6) (h1 : 0 ≤ e.l ∧ e.l ≤ 99) (h2 : -1000000000 ≤ e.v ∧ e.v ≤ 1000000000) (h3 : e.k = .own → e.l = 0) : Bnd (app rs h e) := by
  refine ⟨by rw [app_len]; exact b.lo, by rw [app_len]; exact b.hi, fun j r' q => ?_, fun j p e' q => ?_, fun j p e' q => ?_, fun j p e' q k => ?_⟩
  · rw [app_get hr] at q
    split at q
    · cases q; simp; lia
    · exact b.len j r' q
  · rcases app_new hr q with ⟨_, _, rfl⟩ | q
    · exact h1
    · exact b.lets j p e' q
  · rcases app_new hr q with ⟨_, _, rfl⟩ | q
    · exact h2
    · exact b.vals j p e' q
  · rcases app_new hr q with ⟨_, _, rfl⟩ | q
    · exact h3 k
    · exact b.own0 j p e' q k
theorem Uniq.more {k : Kd} {rs : Rows} {h : Nat} {r : List Ev} {e : Ev} (u : Uniq k rs) (hr : rs[h]? = some r) (hn : e.k = k → ∀ (j p : Nat) (e' : Ev), at? rs j p = some e' → e'.k = k → e'.l ≠ e.l) : Uniq k (app rs h e) := by
  intro j p j' p' a a' q q' ka ka' hl
  rcases app_new hr q with ⟨e1, e2, e3⟩ | q1
  · rcases app_new hr q' with ⟨f1, f2, f3⟩ | q2
    · exact ⟨e1.trans f1.symm, e2.trans f2.symm⟩
    · rw [e3] at ka hl
      exact absurd hl.symm (hn ka _ _ _ q2 ka')
  · rcases app_new hr q' with ⟨f1, f2, f3⟩ | q2
    · rw [f3] at ka' hl
      exact absurd hl (hn ka' _ _ _ q1 ka)
    · exact u j p j' p' a a' q1 q2 ka ka' hl
theorem Draw.own {rs : Rows} {ls : List Int} {n h : Nat} {r : List Ev} {v : Int} (d : Draw rs ls n) (hr : rs[h]? = some r) (hl : r.length < 6) (hv : -1000000000 ≤ v ∧ v ≤ 1000000000) : Draw (app rs h ⟨.own, 0, v⟩) ls (n + 1) := by
  obtain ⟨rk, o, on⟩ := d.ord
  refine ⟨d.bnd.more hr hl ⟨show (0:Int) ≤ 0 by decide, show (0:Int) ≤ 99 by decide⟩ hv fun _ => rfl, d.us.more hr (fun z => nomatch z), d.ut.more hr (fun z => nomatch z), o.more on hr (fun z => nomatch z), d.nd, fun l hm => ?_⟩
  obtain ⟨⟨j, p, e, q, k, le⟩, no⟩ := d.out l hm
  refine ⟨⟨j, p, e, app_old hr q, k, le⟩, fun j p e q k => ?_⟩
  rcases app_new hr q with ⟨_, _, rfl⟩ | q
  · cases k
  · exact no j p e q k
theorem Draw.send {rs : Rows} {ls : List Int} {n h : Nat} {r : List Ev} {l v : Int} (d : Draw rs ls n) (hr : rs[h]? = some r) (hl : r.length < 6) (h1 : 0 ≤ l ∧ l ≤ 99) (hv : -1000000000 ≤ v ∧ v ≤ 1000000000) (hnew : ¬ Used rs l) :
    Draw (app rs h ⟨.send, l, v⟩) (ls ++ [l]) (n + 1) := by
  obtain ⟨rk, o, on⟩ := d.ord
  have nl : l ∉ ls := fun hm => by
    obtain ⟨⟨j, p, e, q, k, le⟩, _⟩ := d.out l hm
    exact hnew ⟨j, p, e, q, by rw [k]; decide, le⟩
  refine ⟨d.bnd.more hr hl h1 hv (fun z => nomatch z), d.us.more hr (fun _ j p e' q k z => hnew ⟨j, p, e', q, by rw [k]; decide, z⟩), d.ut.more hr (fun z => nomatch z), o.more on hr (fun z => nomatch z), ?_, fun m hm => ?_⟩
  · refine List.nodup_append.mpr ⟨d.nd, by simp, fun a ha b hb => ?_⟩
    rintro rfl
    have : a = l := by simpa using hb
    exact nl (this ▸ ha)
  · rcases List.mem_append.mp hm with hm | hm
    · obtain ⟨⟨j, p, e, q, k, le⟩, no⟩ := d.out m hm
      refine ⟨⟨j, p, e, app_old hr q, k, le⟩, fun j p e q k => ?_⟩
      rcases app_new hr q with ⟨_, _, rfl⟩ | q
      · cases k
      · exact no j p e q k
    · have : m = l := by simpa using hm
      subst this
      refine ⟨⟨h, r.length, _, by rw [app_at hr, if_pos ⟨rfl, rfl⟩], rfl, rfl⟩, fun j p e q k => ?_⟩
      rcases app_new hr q with ⟨_, _, rfl⟩ | q
      · cases k
      · exact fun z => hnew ⟨j, p, e, q, by rw [k]; decide, z⟩
theorem erase_nodup {ls : List Int} {i : Nat} {l : Int} (hn : ls.Nodup) (hi : ls[i]? = some l) : (ls.eraseIdx i).Nodup ∧ l ∉ ls.eraseIdx i ∧ ∀ m ∈ ls.eraseIdx i, m ∈ ls := by
  refine ⟨hn.sublist (List.eraseIdx_sublist ..), fun hm => ?_, fun m hm => (List.eraseIdx_sublist ..).subset hm⟩
  obtain ⟨j, hj, hjl⟩ := List.mem_eraseIdx_iff_getElem?.mp hm
  have a := List.getElem?_eq_some_iff.mp hi
  have b := List.getElem?_eq_some_iff.mp hjl
  obtain ⟨ha, ea⟩ := a
  obtain ⟨hb, eb⟩ := b
  exact hj ((List.getElem_inj hn).mp (eb.trans ea.symm))
theorem Draw.take {rs : Rows} {ls : List Int} {n h i : Nat} {r : List Ev} {l v : Int} (d : Draw rs ls n) (hr : rs[h]? = some r) (hl : r.length < 6) (hi : ls[i]? = some l) (hv : -1000000000 ≤ v ∧ v ≤ 1000000000) :
    Draw (app rs h ⟨.take, l, v⟩) (ls.eraseIdx i) (n + 1) := by
  obtain ⟨rk, o, on⟩ := d.ord
  obtain ⟨⟨j0, p0, e0, q0, k0, l0⟩, no0⟩ := d.out l (List.mem_of_getElem? hi)
  obtain ⟨e1, e2, e3⟩ := erase_nodup d.nd hi
  have hb := d.bnd.lets _ _ _ q0
  refine ⟨d.bnd.more hr hl (by rw [l0] at hb; exact hb) hv (fun z => nomatch z), d.us.more hr (fun z => nomatch z), d.ut.more hr (fun _ j p e' q k => no0 j p e' q k), o.more on hr (fun _ => ⟨j0, p0, e0, q0, k0, l0⟩), e1, fun m hm => ?_⟩
  obtain ⟨⟨j, p, e, q, k, le⟩, no⟩ := d.out m (e3 m hm)
  refine ⟨⟨j, p, e, app_old hr q, k, le⟩, fun j p e q k => ?_⟩
  rcases app_new hr q with ⟨_, _, rfl⟩ | q
  · rintro rfl
    exact e2 hm
  · exact no j p e q k
end Cw

namespace Cw
noncomputable def placesRow (k : Kd) (h : Nat) : Nat → List Ev → List (Int × Nat × Nat)
  | _, [] => []
  | p, e :: r => (if e.k = k then [(e.l, h, p)] else []) ++ placesRow k h (p + 1) r
noncomputable def placesFrom (k : Kd) : Nat → Rows → List (Int × Nat × Nat)
  | _, [] => []
  | h, r :: rs => placesRow k h 0 r ++ placesFrom k (h + 1) rs
noncomputable def places (k : Kd) (rs : Rows) : List (Int × Nat × Nat) := placesFrom k 0 rs
theorem placesRow_snoc (k : Kd) (h : Nat) (e : Ev) : ∀ (p : Nat) (r : List Ev), placesRow k h p (r ++ [e]) = placesRow k h p r ++ (if e.k = k then [(e.l, h, p + r.length)] else [])
  | p, [] => by simp [placesRow]
  | p, a :: r => by
    rw [List.cons_append, placesRow, placesRow_snoc k h e (p + 1) r, placesRow, List.append_assoc, List.length_cons]
    have : p + 1 + r.length = p + (r.length + 1) := by lia
    rw [this]
theorem placesFrom_snoc (k : Kd) (r : List Ev) : ∀ (h : Nat) (rs : Rows), placesFrom k h (rs ++ [r]) = placesFrom k h rs ++ placesRow k (h + rs.length) 0 r
  | h, [] => by simp [placesFrom]
  | h, a :: rs => by
    rw [List.cons_append, placesFrom, placesFrom_snoc k r (h + 1) rs, placesFrom, List.append_assoc, List.length_cons]
    have : h + 1 + rs.length = h + (rs.length + 1) := by lia
    rw [this]
theorem placesRow_append (k : Kd) (h : Nat) : ∀ (p : Nat) (r q : List Ev), placesRow k h p (r ++ q) = placesRow k h p r ++ placesRow k h (p + r.length) q
  | p, [], q => by simp [placesRow]
  | p, a :: r, q => by
    rw [List.cons_append, placesRow, placesRow_append k h (p + 1) r q, placesRow, List.append_assoc, List.length_cons]
    have : p + 1 + r.length = p + (r.length + 1) := by lia
    rw [this]
theorem placesFrom_append (k : Kd) : ∀ (h : Nat) (rs qs : Rows), placesFrom k h (rs ++ qs) = placesFrom k h rs ++ placesFrom k (h + rs.length) qs
  | h, [], qs => by simp [placesFrom]
  | h, a :: rs, qs => by
    rw [List.cons_append, placesFrom, placesFrom_append k (h + 1) rs qs, placesFrom, List.append_assoc, List.length_cons]
    have : h + 1 + rs.length = h + (rs.length + 1) := by lia
    rw [this]
theorem mem_placesRow {k : Kd} {h : Nat} {x : Int × Nat × Nat} : ∀ {p : Nat} {r : List Ev}, x ∈ placesRow k h p r ↔ ∃ (j : Nat) (e : Ev), r[j]? = some e ∧ e.k = k ∧ x = (e.l, h, p + j)
  | p, [] => by simp [placesRow]
  | p, a :: r => by
    rw [placesRow, List.mem_append, mem_placesRow (p := p + 1) (r := r)]
    constructor
    · rintro (q | ⟨j, e, he, hk, hx⟩)
      · split at q
        · rename_i hk
          exact ⟨0, a, rfl, hk, by simpa using q⟩
        · cases q
      · exact ⟨j + 1, e, he, hk, by rw [hx]; congr 2; lia⟩
    · rintro ⟨j, e, he, hk, hx⟩
      cases j with
      | zero =>
        have : a = e := Option.some.inj he
        subst this
        left
        rw [if_pos hk, hx]
        simp
      | succ j => exact .inr ⟨j, e, he, hk, by rw [hx]; congr 2; lia⟩
theorem mem_placesFrom {k : Kd} {x : Int × Nat × Nat} : ∀ {n : Nat} {rs : Rows}, x ∈ placesFrom k n rs ↔ ∃ (i j : Nat) (e : Ev), at? rs i j = some e ∧ e.k = k ∧ x = (e.l, n + i, j)
  | n, [] => by simp [placesFrom, at?]
  | n, r :: rs => by
    rw [placesFrom, List.mem_append, mem_placesRow, mem_placesFrom (n := n + 1) (rs := rs)]
    constructor
    · rintro (⟨j, e, he, hk, hx⟩ | ⟨i, j, e, he, hk, hx⟩)
      · exact ⟨0, j, e, by rw [at_row (r := r) rfl]; exact he, hk, by rw [hx]; simp⟩
      · exact ⟨i + 1, j, e, he, hk, by rw [hx]; congr 2; lia⟩
    · rintro ⟨i, j, e, he, hk, hx⟩
      cases i with
      | zero =>
        rw [at_row (r := r) rfl] at he
        exact .inl ⟨j, e, he, hk, by rw [hx]; simp⟩
      | succ i => exact .inr ⟨i, j, e, he, hk, by rw [hx]; congr 2; lia⟩
theorem mem_places {k : Kd} {rs : Rows} {l : Int} {h p : Nat} : (l, h, p) ∈ places k rs ↔ ∃ e, at? rs h p = some e ∧ e.k = k ∧ e.l = l := by
  unfold places
  rw [mem_placesFrom]
  constructor
  · rintro ⟨i, j, e, he, hk, hx⟩
    injection hx with h1 h2
    injection h2 with h2 h3
    have : h = i := by lia
    subst this
    subst h3
    exact ⟨e, he, hk, h1.symm⟩
  · rintro ⟨e, he, hk, hl⟩
    exact ⟨h, p, e, he, hk, by rw [hl]; simp⟩
theorem placesRow_pw (k : Kd) (h : Nat) : ∀ (p : Nat) (r : List Ev), (placesRow k h p r).Pairwise fun a b => a.2 ≠ b.2
  | p, [] => by simp [placesRow]
  | p, a :: r => by
    rw [placesRow]
    refine List.pairwise_append.mpr ⟨?_, placesRow_pw k h (p + 1) r, fun x hx y hy => ?_⟩
    · split <;> simp
    · obtain ⟨j, e, _, _, rfl⟩ := mem_placesRow.mp hy
      split at hx
      · have : x = (a.l, h, p) := by simpa using hx
        subst this
        intro z
        injection z with z1 z2
        lia
      · cases hx
theorem placesFrom_pw (k : Kd) : ∀ (n : Nat) (rs : Rows), (placesFrom k n rs).Pairwise fun a b => a.2 ≠ b.2
  | n, [] => by simp [placesFrom]
  | n, r :: rs => by
    rw [placesFrom]
    refine List.pairwise_append.mpr ⟨placesRow_pw k n 0 r, placesFrom_pw k (n + 1) rs, fun x hx y hy => ?_⟩
    obtain ⟨j, e, _, _, rfl⟩ := mem_placesRow.mp hx
    obtain ⟨i, j', e', _, _, rfl⟩ := mem_placesFrom.mp hy
    intro z
    injection z with z1 z2
    lia
theorem places_nodup {k : Kd} {rs : Rows} (u : Uniq k rs) : ((places k rs).map (·.1)).Nodup := by
  unfold List.Nodup
  rw [List.pairwise_map]
  refine List.Pairwise.imp_of_mem ?_ (placesFrom_pw k 0 rs)
  rintro ⟨l, h, p⟩ ⟨l', h', p'⟩ ha hb hne hl
  obtain ⟨e, he, hk, hel⟩ := mem_places.mp ha
  obtain ⟨e', he', hk', hel'⟩ := mem_places.mp hb
  obtain ⟨z1, z2⟩ := u h p h' p' e e' he he' hk hk' (by rw [hel, hel']; exact hl)
  exact hne (by simp [z1, z2])
noncomputable def soFar (k : Kd) (rs : Rows) (i j : Nat) : List (Int × Nat × Nat) := placesFrom k 0 (rs.take i) ++ placesRow k i 0 (((rs[i]?).getD []).take j)
theorem soFar_zero (k : Kd) (rs : Rows) : soFar k rs 0 0 = [] := by simp [soFar, placesFrom, placesRow]
theorem soFar_row {k : Kd} {rs : Rows} {i : Nat} {r : List Ev} (hr : rs[i]? = some r) : soFar k rs i r.length = soFar k rs (i + 1) 0 := by
  have hl : i < rs.length := (List.getElem?_eq_some_iff.mp hr).1
  unfold soFar
  rw [hr, Option.getD_some, List.take_length, List.take_add_one, hr]
  show _ = placesFrom k 0 (rs.take i ++ [r]) ++ placesRow k (i + 1) 0 (List.take 0 _)
  rw [placesFrom_snoc, List.take_zero, placesRow, List.append_nil, List.length_take]
  have : 0 + min i rs.length = i := by lia
  rw [this]
theorem soFar_ev {k : Kd} {rs : Rows} {i j : Nat} {r : List Ev} {e : Ev} (hr : rs[i]? = some r) (he : r[j]? = some e) : soFar k rs i (j + 1) = soFar k rs i j ++ (if e.k = k then [(e.l, i, j)] else []) := by
  have hl : j < r.length := (List.getElem?_eq_some_iff.mp he).1
  unfold soFar
  rw [hr, Option.getD_some, List.take_add_one, he]
  show _ ++ placesRow k i 0 (r.take j ++ [e]) = _
  rw [placesRow_snoc, List.length_take, List.append_assoc]
  have : 0 + min j r.length = j := by lia
  rw [this]
theorem soFar_all (k : Kd) (rs : Rows) : soFar k rs rs.length 0 = places k rs := by
  unfold soFar places
  rw [List.take_length, List.take_zero, placesRow, List.append_nil]
theorem soFar_pre {k : Kd} {rs : Rows} {i j : Nat} : soFar k rs i j <+: places k rs := by
  unfold soFar places
  by_cases hi : i < rs.length
  · have e : rs = rs.take i ++ (rs[i] :: rs.drop (i + 1)) := by
      rw [← List.drop_eq_getElem_cons hi, List.take_append_drop]
    have g : (rs[i]?).getD [] = rs[i] := by rw [List.getElem?_eq_getElem hi]; rfl
    have e2 : placesFrom k 0 rs = placesFrom k 0 (rs.take i) ++ (placesRow k i 0 rs[i] ++ placesFrom k (i + 1) (rs.drop (i + 1))) := by
      conv => lhs; rw [e]
      rw [placesFrom_append, List.length_take]
      have : 0 + min i rs.length = i := by lia
      rw [this]
      rfl
    rw [g, e2, List.prefix_append_right_inj]
    refine List.IsPrefix.trans ?_ (List.prefix_append _ _)
    conv => rhs; rw [← List.take_append_drop j rs[i]]
    rw [placesRow_append]
    exact List.prefix_append _ _
  · have g : rs[i]? = none := List.getElem?_eq_none (by lia)
    rw [g, Option.getD_none, List.take_of_length_le (by lia), List.take_nil, placesRow, List.append_nil]
    exact List.prefix_refl _
theorem soFar_new {k : Kd} {rs : Rows} (u : Uniq k rs) {i j : Nat} {r : List Ev} {e : Ev} (hr : rs[i]? = some r) (he : r[j]? = some e) (hk : e.k = k) : e.l ∉ (soFar k rs i j).map (·.1) := by
  have p : soFar k rs i (j + 1) <+: places k rs := soFar_pre
  rw [soFar_ev hr he, if_pos hk] at p
  have n := (places_nodup u).sublist (p.sublist.map (·.1))
  rw [List.map_append] at n
  intro hm
  exact (List.nodup_append.mp n).2.2 _ hm _ (by simp) rfl

noncomputable def Free (rs : Rows) (cs : List Nat) (e : Ev) : Prop := e.k = .take → ∃ (h p c : Nat) (e' : Ev), at? rs h p = some e' ∧ e'.k = .send ∧ e'.l = e.l ∧ cs[h]? = some c ∧ p < c
inductive Reach (rs : Rows) : List Nat → Prop where
  | zero : Reach rs (rs.map fun _ => 0)
  | step {cs : List Nat} {h c : Nat} {e : Ev} : Reach rs cs → cs[h]? = some c → at? rs h c = some e → Free rs cs e → Reach rs (cs.set h (c + 1))
noncomputable def Stuck (rs : Rows) (cs : List Nat) : Prop := ∀ (h c : Nat) (e : Ev), cs[h]? = some c → at? rs h c = some e → ¬ Free rs cs e
theorem Reach.len {rs : Rows} {cs : List Nat} (r : Reach rs cs) : cs.length = rs.length := by
  induction r with
  | zero => simp
  | step _ _ _ _ ih => rw [List.length_set]; exact ih
theorem Reach.le {rs : Rows} {cs : List Nat} (q : Reach rs cs) : ∀ (h c : Nat) (r : List Ev), cs[h]? = some c → rs[h]? = some r → c ≤ r.length := by
  induction q with
  | zero =>
    intro h c r hc hr
    rw [List.getElem?_map, hr] at hc
    cases hc
    exact Nat.zero_le _
  | @step cs h c e _ hc he _ ih =>
    intro j c' r hc' hr
    by_cases z : h = j
    · subst z
      have hl : h < cs.length := (List.getElem?_eq_some_iff.mp hc).1
      rw [List.getElem?_set_self hl] at hc'
      cases hc'
      rw [at_row hr] at he
      have := (List.getElem?_eq_some_iff.mp he).1
      lia
    · rw [List.getElem?_set_ne z] at hc'
      exact ih j c' r hc' hr
theorem Stuck.done {rs : Rows} {cs : List Nat} (q : Reach rs cs) (st : Stuck rs cs) {rk : Nat → Nat → Nat} (o : Ord rs rk) : cs = rs.map List.length := by
  have all : ∀ (n h p : Nat) (e : Ev), rk h p < n → at? rs h p = some e → ∃ c, cs[h]? = some c ∧ p < c := by
    intro n
    induction n with
    | zero => intro h p e hn; lia
    | succ n ih =>
      intro h p e hn he
      obtain ⟨r, hr, hre⟩ := at_some he
      have hl : h < cs.length := by rw [q.len]; exact (List.getElem?_eq_some_iff.mp hr).1
      refine ⟨cs[h], List.getElem?_eq_getElem hl, ?_⟩
      rcases Nat.lt_trichotomy p cs[h] with z | z | z
      · exact z
      · exfalso
        refine st h cs[h] e (List.getElem?_eq_getElem hl) (by rw [← z]; exact he) fun hk => ?_
        obtain ⟨h', p', e', he', hk', hl', lt⟩ := o.sent h p e he hk
        obtain ⟨c', hc', hlt⟩ := ih h' p' e' (by lia) he'
        exact ⟨h', p', c', e', he', hk', hl', hc', hlt⟩
      · exfalso
        have hp : p = (p - 1) + 1 := by lia
        have lt : rk h (p - 1) < rk h (p - 1 + 1) := o.row h (p - 1) e (by rw [← hp]; exact he)
        rw [← hp] at lt
        have hpl : p < r.length := (List.getElem?_eq_some_iff.mp hre).1
        obtain ⟨c', hc', hlt⟩ := ih h (p - 1) (r[p - 1]) (by lia) (by rw [at_row hr]; exact List.getElem?_eq_getElem (by lia))
        rw [List.getElem?_eq_getElem hl] at hc'
        cases hc'
        lia
  refine List.ext_getElem? fun h => ?_
  rw [List.getElem?_map]
  cases hr : rs[h]? with
  | none =>
    have : rs.length ≤ h := List.getElem?_eq_none_iff.mp hr
    rw [List.getElem?_eq_none (by rw [q.len]; exact this)]
    rfl
  | some r =>
    have hl : h < cs.length := by rw [q.len]; exact (List.getElem?_eq_some_iff.mp hr).1
    rw [List.getElem?_eq_getElem hl]
    show some cs[h] = some r.length
    congr 1
    have h1 := q.le h cs[h] r (List.getElem?_eq_getElem hl) hr
    rcases Nat.lt_or_ge cs[h] r.length with z | z
    · obtain ⟨c, hc, hlt⟩ := all (rk h cs[h] + 1) h cs[h] (r[cs[h]]) (by lia) (by rw [at_row hr]; exact List.getElem?_eq_getElem z)
      rw [List.getElem?_eq_getElem hl] at hc
      cases hc
      lia
    · lia
end Cw

namespace Cw
end Cw

namespace Cw
end Cw

set_option Elab.async false
set_option linter.all false
set_option maxRecDepth 100000
set_option maxHeartbeats 4000000
namespace L2
open PySem PySem.Spec PyProof.Rows
theorem un_of {A : Around} {k d : Nat} (hr : Room k A) (h : d ≤ 200 := by decide) : A.units + d < cLine := by have := hr.un; lia
inductive rLenSP (K : PySem.W.Frag) (xs : List V) (H : Hp) (Q : VK) : Prop
  | mk (p : _) (ys : _) (h_0 : xs = [.ref p]) (h_1 : (SqL K H p ys ∨ SqT K H p ys)) (h_2 : Q (.int ys.length) H)
noncomputable def rLenS (K : PySem.W.Frag) : List V → Hp → VK → Prop := fun xs H Q => rLenSP K xs H Q
inductive rListOfP (K : PySem.W.Frag) (xs : List V) (H : Hp) (Q : VK) : Prop
  | mk (p : _) (ys : _) (h_0 : xs = [.ref p]) (h_1 : (SqL K H p ys ∨ SqT K H p ys)) (h_2 : ∀ l, H l = none → Q (.ref l) (upd H l (.lst ys)))
noncomputable def rListOf (K : PySem.W.Frag) : List V → Hp → VK → Prop := fun xs H Q => rListOfP K xs H Q
theorem bt_len : bootBuiltins "len" = some (.builtin "len") := by decide +kernel
theorem bt_isinstance : bootBuiltins "isinstance" = some (.builtin "isinstance") := by decide +kernel
theorem bt_list : bootBuiltins "list" = some (.type "list") := by decide +kernel
theorem bt_int : bootBuiltins "int" = some (.type "int") := by decide +kernel
theorem bt_str : bootBuiltins "str" = some (.type "str") := by decide +kernel
theorem get_list {X : Cx} : PGet X (fun o i H Q => ∃ p xs k v, o = .ref p ∧ i = .int k ∧ SqL X.K H p xs ∧ 0 ≤ k ∧ atI xs k = some v ∧ Q v H) := by
  intro pins s σ H o i ov iv Q I ro ri h
  obtain ⟨p, xs, k, v, e1, e2, hq, hk, hx, q⟩ := h
  subst e1; subst e2
  cases ro
  obtain ⟨t, rfl⟩ := ri
  obtain ⟨its, rv, pl, hz⟩ := I.list hq
  obtain ⟨j, hs, hj, hjl, h1, h2⟩ := atI_get hx
  obtain ⟨u, hu, ru⟩ := rv.get hj
  have ej : j = k.toNat := by
    have e := hs
    unfold seqIndex? at e
    simp only [hk, if_true] at e
    split at e <;> first | (cases e; rfl) | (simp at e; lia) | cases e
  exact wpAny_getItem_list pl.isList hk (by have := line63; have : (xs.length : Int) ≤ (sizeLine : Int) := by exact_mod_cast hz
                                            lia) (by rw [← ej]; simpa using hu) ⟨v, H, I, ru, q⟩
end L2
namespace Cw
open PySem L2
noncomputable def Kd.str : Kd → Str
  | .own => "own"
  | .send => "send"
  | .take => "take"
theorem Kd.str_inj : ∀ {a b : Kd}, a.str = b.str → a = b := by
  intro a b h
  cases a <;> cases b <;> first | rfl | exact absurd h (by decide +kernel)
noncomputable def Ev.vs (e : Ev) : List V := [.str e.k.str, .int e.l, .int e.v]
noncomputable def Kept (S : Addr → Prop) (H H' : Hp) : Prop := ∀ b o, H b = some o → ¬ S b → H' b = some o
theorem Same.kept {S : Addr → Prop} {H H' : Hp} (h : Same H H') : Kept S H H' := fun b o e _ => h b o e
theorem Kept.trans {S : Addr → Prop} {H H1 H2 : Hp} (a : Kept S H H1) (b : Kept S H1 H2) : Kept S H H2 := fun c o e n => b c o (a c o e n) n
theorem Kept.upd {S : Addr → Prop} {H : Hp} {a : Addr} {o : HO} (h : S a) : Kept S H (L2.upd H a o) := fun b u e n => by
  rw [upd_ne (by rintro rfl; exact n h)]; exact e
theorem Same.new {H : Hp} {a : Addr} {o : HO} (h : H a = none) : Same H (L2.upd H a o) := fun b u e => by
  rw [upd_ne (ne_of_none e h)]; exact e
noncomputable def NoTup (S : Addr → Prop) (H : Hp) : Prop := ∀ b xs, S b → H b ≠ some (.tup xs)
noncomputable def EvAt (H : Hp) (x : V) (e : Ev) : Prop := ∃ p, x = .ref p ∧ H p = some (.tup e.vs)
theorem EvAt.keep {S : Addr → Prop} {H H' : Hp} {x : V} {e : Ev} (k : Kept S H H') (n : NoTup S H) (h : EvAt H x e) : EvAt H' x e := by
  obtain ⟨p, rfl, q⟩ := h
  exact ⟨p, rfl, k p _ q fun z => n p _ z q⟩
noncomputable def RowA (H : Hp) (p : Addr) (r : List Ev) : Prop := ∃ xs, H p = some (.lst xs) ∧ Paired (EvAt H) xs r
theorem RowA.keep {S : Addr → Prop} {H H' : Hp} {p : Addr} {r : List Ev} (k : Kept S H H') (n : NoTup S H) (np : ¬ S p) (h : RowA H p r) : RowA H' p r := by
  obtain ⟨xs, q, m⟩ := h
  exact ⟨xs, k p _ q np, Paired.mapP m fun x e z => z.keep k n⟩
structure RowsA (H : Hp) (a : Addr) (ps : List Addr) (rs : Rows) : Prop where
  top : H a = some (.lst (ps.map V.ref))
  rows : Paired (RowA H) ps rs
theorem RowsA.keep {S : Addr → Prop} {H H' : Hp} {a : Addr} {ps : List Addr} {rs : Rows} (k : Kept S H H') (n : NoTup S H) (na : ¬ S a) (np : ∀ p ∈ ps, ¬ S p) (h : RowsA H a ps rs) : RowsA H' a ps rs := by
  refine ⟨k a _ h.top na, ?_⟩
  have := h.rows
  clear h
  induction this with
  | nil => exact .nil
  | @cons p r ps rs q t ih => exact .cons (q.keep k n (np p List.mem_cons_self)) (ih fun b hb => np b (List.mem_cons_of_mem _ hb))
theorem RowsA.same {H H' : Hp} {a : Addr} {ps : List Addr} {rs : Rows} (k : Same H H') (h : RowsA H a ps rs) : RowsA H' a ps rs :=
  h.keep (S := fun _ => False) (fun b o e _ => k b o e) (fun _ _ z => z.elim) (fun z => z) (fun _ _ z => z)
theorem RowsA.len {H : Hp} {a : Addr} {ps : List Addr} {rs : Rows} (h : RowsA H a ps rs) : ps.length = rs.length := Paired.length h.rows
theorem RowsA.row {H : Hp} {a : Addr} {ps : List Addr} {rs : Rows} (h : RowsA H a ps rs) {i : Nat} {r : List Ev} (e : rs[i]? = some r) : ∃ p, ps[i]? = some p ∧ RowA H p r := Paired.getR h.rows e
structure RowsNew (H H' : Hp) (a : Addr) (ps : List Addr) (rs : Rows) : Prop where
  at_ : RowsA H' a ps rs
  na : H a = none
  np : ∀ p ∈ ps, H p = none
  nd : ps.Nodup
  nap : a ∉ ps
theorem RowsA.mean {H : Hp} {K : PySem.W.Frag} {a : Addr} {ps : List Addr} {rs : Rows} (h : RowsA H a ps rs) : MLst K (MLst K (MTup K MFl)) H (.ref a) (rs.map fun r => r.map Ev.vs) := by
  refine ⟨a, _, rfl, SqL.of h.top, ?_⟩
  have := h.rows
  clear h
  induction this with
  | nil => exact .nil
  | @cons p r ps rs q t ih =>
    refine .cons ?_ ih
    obtain ⟨xs, q1, m⟩ := q
    refine ⟨p, xs, rfl, SqL.of q1, ?_⟩
    clear q1
    induction m with
    | nil => exact .nil
    | @cons x e xs r z t ih2 =>
      obtain ⟨p', rfl, hp'⟩ := z
      exact .cons ⟨p', _, rfl, SqT.of hp', .cons ⟨rfl, rfl⟩ (.cons ⟨rfl, rfl⟩ (.cons ⟨rfl, rfl⟩ .nil))⟩ ih2
theorem RowsA.more {H : Hp} {a : Addr} {ps : List Addr} {rs : Rows} (h : RowsA H a ps rs) (nd : ps.Nodup) (nap : a ∉ ps) {i : Nat} {p t : Addr} {r : List Ev} {xs : List V} {e : Ev} (hp : ps[i]? = some p) (hr : rs[i]? = some r) (hx : H p = some (.lst xs)) (ht : H t = some (.tup e.vs)) :
    RowsA (L2.upd H p (.lst (xs ++ [.ref t]))) a ps (app rs i e) := by
  have pm : p ∈ ps := List.mem_of_getElem? hp
  have nt : ∀ b u, H b = some (.tup u) → b ≠ p := fun b u q z => by rw [z, hx] at q; cases q
  have kt : ∀ b u, H b = some (.tup u) → L2.upd H p (.lst (xs ++ [.ref t])) b = some (.tup u) := fun b u q => by rw [upd_ne (nt b u q)]; exact q
  have kev : ∀ x e, EvAt H x e → EvAt (L2.upd H p (.lst (xs ++ [.ref t]))) x e := fun x e ⟨q, hq, z⟩ => ⟨q, hq, kt _ _ z⟩
  refine ⟨by rw [upd_ne (by rintro rfl; exact nap pm)]; exact h.top, ?_⟩
  have il : i < rs.length := (List.getElem?_eq_some_iff.mp hr).1
  have gen : ∀ {ps : List Addr} {rs : Rows} {i : Nat}, Paired (RowA H) ps rs → ps.Nodup → ps[i]? = some p → rs[i]? = some r → Paired (RowA (L2.upd H p (.lst (xs ++ [.ref t])))) ps (rs.set i (r ++ [e])) := by
    intro ps rs i m
    induction m generalizing i with
    | nil => intro _ hp; simp at hp
    | @cons p' r' ps' rs' q t' ih =>
      intro nd hp hr
      obtain ⟨n1, n2⟩ := List.nodup_cons.mp nd
      cases i with
      | zero =>
        have e1 : p' = p := by simpa using hp
        have e2 : r' = r := by simpa using hr
        subst e1; subst e2
        rw [List.set_cons_zero]
        refine .cons ?_ ?_
        · obtain ⟨ys, q1, m1⟩ := q
          rw [hx] at q1; cases q1
          exact ⟨_, upd_same, Paired.snoc (Paired.mapP m1 kev) (kev _ _ ⟨t, rfl, ht⟩)⟩
        · clear ih hp hr nd n2
          induction t' with
          | nil => exact .nil
          | @cons p2 r2 ps2 rs2 q2 t2 ih2 =>
            refine .cons ?_ (ih2 fun z => n1 (List.mem_cons_of_mem _ z))
            obtain ⟨ys, q1, m1⟩ := q2
            exact ⟨ys, by rw [upd_ne (by rintro rfl; exact n1 List.mem_cons_self)]; exact q1, Paired.mapP m1 kev⟩
      | succ i =>
        rw [List.set_cons_succ]
        have hp' : ps'[i]? = some p := by simpa using hp
        refine .cons ?_ (ih n2 hp' (by simpa using hr))
        obtain ⟨ys, q1, m1⟩ := q
        exact ⟨ys, by rw [upd_ne (by rintro rfl; exact n1 (List.mem_of_getElem? hp'))]; exact q1, Paired.mapP m1 kev⟩
  have := gen h.rows nd hp hr
  unfold app
  rw [hr]
  exact this
noncomputable def PlA (H : Hp) (kv : Key × V) (x : Int × Nat × Nat) : Prop := kv.1 = .inl x.1 ∧ ∃ t, kv.2 = .ref t ∧ H t = some (.tup [.int (x.2.1 : Nat), .int (x.2.2 : Nat)])
theorem PlA.keep {S : Addr → Prop} {H H' : Hp} {kv : Key × V} {x : Int × Nat × Nat} (k : Kept S H H') (n : NoTup S H) (h : PlA H kv x) : PlA H' kv x := by
  obtain ⟨h1, t, h2, h3⟩ := h
  exact ⟨h1, t, h2, k t _ h3 fun z => n t _ z h3⟩
theorem pl_none {H : Hp} {l : Int} {kvs : List (Key × V)} {xs : List (Int × Nat × Nat)} (m : Paired (PlA H) kvs xs) (hn : l ∉ xs.map (·.1)) : valV kvs (Sum.inl l : Key) = none := by
  induction m with
  | nil => rfl
  | @cons kv x _ _ h t ih =>
    have e : ¬ kv.1 = (Sum.inl l : Key) := fun z => by
      rw [h.1] at z
      exact hn (by rw [List.map_cons, Sum.inl.inj z]; exact List.mem_cons_self)
    rw [valV_neg e]
    exact ih fun z => hn (by rw [List.map_cons]; exact List.mem_cons_of_mem _ z)
theorem pl_some {H : Hp} {l : Int} {h p : Nat} {kvs : List (Key × V)} {xs : List (Int × Nat × Nat)} (m : Paired (PlA H) kvs xs) (nd : (xs.map (·.1)).Nodup) (hm : (l, h, p) ∈ xs) : ∃ t, valV kvs (Sum.inl l : Key) = some (.ref t) ∧ H t = some (.tup [.int (h : Nat), .int (p : Nat)]) := by
  induction m with
  | nil => cases hm
  | @cons kv x _ _ q t ih =>
    rw [List.map_cons] at nd
    obtain ⟨n1, n2⟩ := List.nodup_cons.mp nd
    rcases List.mem_cons.mp hm with e | hm
    · subst e
      obtain ⟨q1, t', q2, q3⟩ := q
      exact ⟨t', by rw [valV_pos q1, q2], q3⟩
    · have e : ¬ kv.1 = (Sum.inl l : Key) := fun z => by
        rw [q.1] at z
        have : x.1 = l := Sum.inl.inj z
        exact n1 (by rw [this]; exact List.mem_map.mpr ⟨_, hm, rfl⟩)
      rw [valV_neg e]
      exact ih n2 hm
end Cw

set_option Elab.async false
set_option linter.all false
set_option maxRecDepth 100000
set_option maxHeartbeats 4000000
namespace Cw
open PySem L2
noncomputable def cell (ns : List Int) (k : Int) : Int := (ns[k.toNat]?).getD 0
noncomputable def draw (ns : List Int) (k : Int) : Int := (cell ns (k % 61) + 7919 * k) * 48271 % 2147483647
noncomputable def value (ns : List Int) (k : Int) : Int := if draw ns k % 4 = 0 then cell ns (k % 61) % 2000000001 - 1000000000 else draw ns k / 4 % 5 - 2
theorem draw_nn (ns : List Int) (k : Int) : 0 ≤ draw ns k := Int.emod_nonneg _ (by decide)
theorem value_bnd (ns : List Int) (k : Int) : -1000000000 ≤ value ns k ∧ value ns k ≤ 1000000000 := by
  unfold value
  split <;> lia
inductive sp_cellP (K : PySem.W.Frag) (vs : List V) (H : Hp) (Q : VK) (x_3 : XK) : Prop
  | mk (a : Addr) (ns : List Int) (k : Int) (h_0 : vs = [.ref a, .int k]) (h_1 : SqL K H a (ns.map V.int)) (h_2 : 0 ≤ k) (h_3 : Q (.int (cell ns k)) H)
noncomputable def sp_cell (K : PySem.W.Frag) : Sp := fun vs H Q x_3 => sp_cellP K vs H Q x_3
inductive sp_drawP (K : PySem.W.Frag) (vs : List V) (H : Hp) (Q : VK) (x_3 : XK) : Prop
  | mk (a : Addr) (ns : List Int) (k : Int) (h_0 : vs = [.ref a, .int k]) (h_1 : SqL K H a (ns.map V.int)) (h_2 : 0 ≤ k) (h_3 : Q (.int (draw ns k)) H)
noncomputable def sp_draw (K : PySem.W.Frag) : Sp := fun vs H Q x_3 => sp_drawP K vs H Q x_3
inductive sp_valueP (K : PySem.W.Frag) (vs : List V) (H : Hp) (Q : VK) (x_3 : XK) : Prop
  | mk (a : Addr) (ns : List Int) (k : Int) (h_0 : vs = [.ref a, .int k]) (h_1 : SqL K H a (ns.map V.int)) (h_2 : 0 ≤ k) (h_3 : Q (.int (value ns k)) H)
noncomputable def sp_value (K : PySem.W.Frag) : Sp := fun vs H Q x_3 => sp_valueP K vs H Q x_3
inductive sp_usedP (vs : List V) (H : Hp) (Q : VK) (x_3 : XK) : Prop
  | mk (a : Addr) (ps : List Addr) (rs : Rows) (l : Int) (h_0 : vs = [.ref a, .int l]) (h_1 : RowsA H a ps rs) (h_2 : ∀ b : Bool, (b = true ↔ Used rs l) → Q (.bl b) H)
noncomputable def sp_used : Sp := fun vs H Q x_3 => sp_usedP vs H Q x_3
inductive sp_recordP (K : PySem.W.Frag) (vs : List V) (H : Hp) (Q : VK) (x_3 : XK) : Prop
  | mk (a : Addr) (ns : List Int) (m : Nat) (h_0 : vs = [.ref a, .int (m : Nat)]) (h_1 : SqL K H a (ns.map V.int)) (h_2 : m ≤ 100) (h_3 : ∀ (r : Addr) (ps : List Addr) (rs : Rows) (H' : Hp), Val rs → Same H H' → RowsNew H H' r ps rs → (rs.map List.length).sum ≤ m → Q (.ref r) H')
noncomputable def sp_record (K : PySem.W.Frag) : Sp := fun vs H Q x_3 => sp_recordP K vs H Q x_3
inductive sp_copyP (vs : List V) (H : Hp) (Q : VK) (x_3 : XK) : Prop
  | mk (a : Addr) (ps : List Addr) (rs : Rows) (h_0 : vs = [.ref a]) (h_1 : RowsA H a ps rs) (h_2 : rs.length ≤ 1000) (h_3 : ∀ (r : Addr) (qs : List Addr) (H' : Hp), Same H H' → RowsNew H H' r qs rs → Q (.ref r) H')
noncomputable def sp_copy : Sp := fun vs H Q x_3 => sp_copyP vs H Q x_3
inductive sp_placesP (vs : List V) (H : Hp) (Q : VK) (x_3 : XK) : Prop
  | mk (a : Addr) (ps : List Addr) (rs : Rows) (k : Kd) (h_0 : vs = [.ref a, .str k.str]) (h_1 : RowsA H a ps rs) (h_2 : Uniq k rs) (h_3 : Bnd rs) (h_4 : ∀ (d : Addr) (kvs : List (Key × V)) (H' : Hp), Same H H' → H d = none → H' d = some (.dK kvs) → Paired (PlA H') kvs (places k rs) → Q (.ref d) H')
noncomputable def sp_places : Sp := fun vs H Q x_3 => sp_placesP vs H Q x_3
inductive sp_checkP (vs : List V) (H : Hp) (Q : VK) (x_3 : XK) : Prop
  | mk (sd : Addr) (td : Addr) (skvs : List (Key × V)) (tkvs : List (Key × V)) (h_0 : vs = [.ref sd, .ref td]) (h_1 : H sd = some (.dK skvs)) (h_2 : H td = some (.dK tkvs)) (h_3 : sd ≠ td) (h_4 : (∀ kv ∈ tkvs, (valV skvs kv.1).isSome = true)) (h_5 : ∀ o, Q .non (L2.upd H td (.frz o (.dK tkvs))))
noncomputable def sp_check : Sp := fun vs H Q x_3 => sp_checkP vs H Q x_3
noncomputable def SendsA (H : Hp) (d : Addr) (rs : Rows) : Prop := ∃ kvs, Rd H d (.dK kvs) ∧ Paired (PlA H) kvs (places .send rs)
noncomputable def TakesA (H : Hp) (d : Addr) (rs : Rows) : Prop := ∃ kvs, Rd H d (.dK kvs) ∧ Paired (PlA H) kvs (places .take rs)
noncomputable def Sent (rs : Rows) : Prop := ∀ (h p : Nat) (e : Ev), at? rs h p = some e → e.k = .take → ∃ (h' p' : Nat) (e' : Ev), at? rs h' p' = some e' ∧ e'.k = .send ∧ e'.l = e.l
theorem Val.sent {rs : Rows} (v : Val rs) : Sent rs := fun h p e q k => by
  obtain ⟨rk, o⟩ := v.ord
  obtain ⟨h', p', e', a, b, c, _⟩ := o.sent h p e q k
  exact ⟨h', p', e', a, b, c⟩
noncomputable def csV (cs : List Nat) : List V := cs.map fun n => V.int (n : Nat)
inductive sp_canP (vs : List V) (H : Hp) (Q : VK) (x_3 : XK) : Prop
  | mk (t : Addr) (sd : Addr) (c : Addr) (e : Ev) (cs : List Nat) (rs : Rows) (h_0 : vs = [.ref t, .ref sd, .ref c]) (h_1 : H t = some (.tup e.vs)) (h_2 : SendsA H sd rs) (h_3 : H c = some (.lst (csV cs))) (h_4 : cs.length = rs.length) (h_5 : Uniq .send rs) (h_6 : (e.k = .take → ∃ (h' p' : Nat) (e' : Ev), at? rs h' p' = some e' ∧ e'.k = .send ∧ e'.l = e.l)) (h_7 : ∀ b : Bool, (b = true ↔ Free rs cs e) → Q (.bl b) H)
noncomputable def sp_can : Sp := fun vs H Q x_3 => sp_canP vs H Q x_3
inductive sp_doneP (vs : List V) (H : Hp) (Q : VK) (x_3 : XK) : Prop
  | mk (a : Addr) (sd : Addr) (ps : List Addr) (rs : Rows) (h_0 : vs = [.ref a, .ref sd]) (h_1 : RowsA H a ps rs) (h_2 : SendsA H sd rs) (h_3 : Uniq .send rs) (h_4 : Sent rs) (h_5 : rs.length ≤ 1000) (h_6 : ∀ (c : Addr) (cs : List Nat) (H' : Hp), Same H H' → H c = none → H' c = some (.lst (csV cs)) → Reach rs cs → Stuck rs cs → Q (.ref c) H')
noncomputable def sp_done : Sp := fun vs H Q x_3 => sp_doneP vs H Q x_3
inductive sp_noringP (vs : List V) (H : Hp) (Q : VK) (x_3 : XK) : Prop
  | mk (a : Addr) (sd : Addr) (ps : List Addr) (rs : Rows) (h_0 : vs = [.ref a, .ref sd]) (h_1 : RowsA H a ps rs) (h_2 : SendsA H sd rs) (h_3 : Val rs) (h_4 : ∀ H', Same H H' → Q .non H')
noncomputable def sp_noring : Sp := fun vs H Q x_3 => sp_noringP vs H Q x_3
noncomputable def recF (a sd td : Addr) : List (Str × V) := [("rows", .ref a), ("sends", .ref sd), ("takes", .ref td)]
structure RecA (C : Addr) (H : Hp) (x : Addr) (rs : Rows) (a : Addr) (ps : List Addr) (sd td : Addr) : Prop where
  ob : ∃ dx, H x = some (.ins C dx (recF a sd td))
  rows : RowsA H a ps rs
  sends : SendsA H sd rs
  takes : TakesA H td rs
  val : Val rs
inductive sp_initP (C : Addr) (vs : List V) (H : Hp) (Q : VK) (x_3 : XK) : Prop
  | mk (x : Addr) (dx : Addr) (a : Addr) (ps : List Addr) (rs : Rows) (h_0 : vs = [.ref x, .ref a]) (h_1 : H x = some (.ins C dx [])) (h_2 : RowsA H a ps rs) (h_3 : Val rs) (h_4 : ∀ (r : Addr) (qs : List Addr) (sd td : Addr) (H' : Hp), Kept (fun b => b = x) H H' → RecA C H' x rs r qs sd td → H r = none → (∀ q ∈ qs, H q = none) → H sd = none → H td = none → Q .non H')
noncomputable def sp_init (C : Addr) : Sp := fun vs H Q x_3 => sp_initP C vs H Q x_3
inductive sp_lawP (K : PySem.W.Frag) (vs : List V) (H : Hp) (Q : VK) (x_3 : XK) : Prop
  | mk (a : Addr) (ns : List Int) (h_0 : vs = [.ref a]) (h_1 : SqL K H a (ns.map V.int)) (h_2 : ns.length ≤ 63) (h_3 : ∀ H', Q (.bl true) H')
noncomputable def sp_law (K : PySem.W.Frag) : Sp := fun vs H Q x_3 => sp_lawP K vs H Q x_3
noncomputable def Bl (mg : Str → Option Value) : Prop := ∀ x ∈ (["len", "range", "enumerate", "list", "tuple", "isinstance", "int", "bool", "str", "min", "max", "sum", "sorted", "reversed", "zip", "any", "all"] : List Str), mg x = none
structure RecC (K : PySem.W.Frag) (C : Addr) : Prop where
  cl : Cls K C
  nR : NoAttr K C "rows"
  nS : NoAttr K C "sends"
  nT : NoAttr K C "takes"
end Cw

set_option Elab.async false
set_option linter.all false
set_option maxRecDepth 100000
set_option maxHeartbeats 4000000
namespace Cw
open PySem L2
section
variable {P : Program} {w : World} {K : PySem.W.Frag} {mg : Str → Option Value} {base : Heap}
theorem atI_int {ns : List Int} {k : Int} (h0 : 0 ≤ k) (h : k < ((ns.map V.int).length : Int)) : atI (ns.map V.int) k = some (.int (cell ns k)) := by
  have hl : k.toNat < ns.length := by rw [List.length_map] at h; lia
  have e : k = ((k.toNat : Nat) : Int) := by lia
  rw [e]
  refine atI_nat ?_
  rw [List.getElem?_map, List.getElem?_eq_getElem hl]
  unfold cell
  rw [Int.toNat_natCast, List.getElem?_eq_getElem hl]
  rfl
theorem cell_out {ns : List Int} {k : Int} (h : ¬ k < ((ns.map V.int).length : Int)) : cell ns k = 0 := by
  have hl : ns.length ≤ k.toNat := by rw [List.length_map] at h; lia
  unfold cell
  rw [List.getElem?_eq_none hl]
  rfl
theorem kd_dec (a b : Kd) : decide (V.str a.str = V.str b.str) = decide (a = b) := decide_eq_decide.mpr ⟨fun h => Kd.str_inj (by injection h), fun h => by rw [h]⟩
theorem map_ref {ps : List Addr} {i : Nat} {y : V} (h : (ps.map V.ref)[i]? = some y) : ∃ p, ps[i]? = some p ∧ y = .ref p := by
  rw [List.getElem?_map] at h
  cases e : ps[i]? with
  | none => rw [e] at h; cases h
  | some p => rw [e] at h; exact ⟨p, rfl, (Option.some.inj h).symm⟩
theorem RowsA.get {H : Hp} {a : Addr} {ps : List Addr} {rs : Rows} (h : RowsA H a ps rs) {i : Nat} {p : Addr} (e : ps[i]? = some p) : ∃ r, rs[i]? = some r ∧ RowA H p r := Paired.get h.rows e
theorem ev_get {H : Hp} {xs : List V} {r : List Ev} (m : Paired (EvAt H) xs r) {j : Nat} {z : V} (h : xs[j]? = some z) : ∃ t e, r[j]? = some e ∧ z = .ref t ∧ H t = some (.tup e.vs) := by
  obtain ⟨e, he, t, hz, ht⟩ := Paired.get m h
  exact ⟨t, e, he, hz, ht⟩
theorem copy_step {H0 H : Hp} {D l : Addr} {qs : List Addr} {rs : Rows} {i : Nat} {r : List Ev} {xs : List V} (hs : Same H0 H) (hD0 : H0 D = none) (hD : H D = some (.lst (qs.map V.ref))) (hq : Paired (RowA H) qs (rs.take i)) (hn : ∀ q ∈ qs, H0 q = none) (nd : qs.Nodup) (nD : D ∉ qs)
    (hr : rs[i]? = some r) (m : Paired (EvAt H0) xs r) (hl : H l = none) :
    let H' := L2.upd (L2.upd H l (.lst xs)) D (.lst ((qs ++ [l]).map V.ref))
    Same H0 H' ∧ H' D = some (.lst ((qs ++ [l]).map V.ref)) ∧ Paired (RowA H') (qs ++ [l]) (rs.take (i + 1)) ∧ (∀ q ∈ qs ++ [l], H0 q = none) ∧ (qs ++ [l]).Nodup ∧ D ∉ qs ++ [l] := by
  intro H'
  have lD : l ≠ D := by rintro rfl; rw [hl] at hD; cases hD
  have l0 : H0 l = none := hs.free hl
  have s1 : Same H0 H' := fun b o e => by
    show L2.upd _ D _ b = _
    rw [upd_ne (ne_of_none e hD0), upd_ne (ne_of_none e l0)]
    exact hs b o e
  have lq : l ∉ qs := fun z => by
    obtain ⟨i, hi⟩ := List.getElem?_of_mem z
    obtain ⟨r, _, xs, hx, _⟩ := Paired.get hq hi
    rw [hl] at hx; cases hx
  refine ⟨s1, upd_same, ?_, fun q hq => ?_, ?_, fun z => ?_⟩
  · rw [List.take_add_one, hr]
    refine Paired.snoc ?_ ⟨xs, by show L2.upd _ D _ l = _; rw [upd_ne lD, upd_same], Paired.mapP m fun x e z => z.keep (S := fun _ => False) (fun b o e _ => s1 b o e) (fun _ _ z => z.elim)⟩
    have k : Kept (fun b => b = D) H H' := fun b o e n => by
      show L2.upd _ D _ b = _
      rw [upd_ne n, upd_ne (ne_of_none e hl)]
      exact e
    have nt : NoTup (fun b => b = D) H := fun b xs hb z => by rw [hb, hD] at z; cases z
    have gen : ∀ {qs : List Addr} {rs : Rows}, Paired (RowA H) qs rs → D ∉ qs → Paired (RowA H') qs rs := by
      intro qs rs m
      induction m with
      | nil => intro _; exact .nil
      | @cons p r ps rs q t ih => intro n; exact .cons (q.keep k nt fun z => n (by rw [z]; exact List.mem_cons_self)) (ih fun z => n (List.mem_cons_of_mem _ z))
    exact gen hq nD
  · rcases List.mem_append.mp hq with z | z
    · exact hn q z
    · have : q = l := by simpa using z
      rw [this]; exact l0
  · refine List.nodup_append.mpr ⟨nd, by simp, fun a ha b hb => ?_⟩
    rintro rfl
    have : a = l := by simpa using hb
    exact lq (this ▸ ha)
  · rcases List.mem_append.mp z with z | z
    · exact nD z
    · have : D = l := by simpa using z
      exact lD this.symm
theorem placesRow_len (k : Kd) (h : Nat) : ∀ (p : Nat) (r : List Ev), (placesRow k h p r).length ≤ r.length
  | _, [] => Nat.le_refl _
  | p, e :: r => by
    have := placesRow_len k h (p + 1) r
    rw [placesRow, List.length_append, List.length_cons]
    split <;> simp <;> lia
theorem placesFrom_len (k : Kd) : ∀ (n : Nat) (rs : Rows), (∀ r ∈ rs, r.length ≤ 6) → (placesFrom k n rs).length ≤ 6 * rs.length
  | _, [], _ => Nat.le_refl _
  | n, r :: rs, h => by
    have h1 := placesFrom_len k (n + 1) rs fun x hx => h x (List.mem_cons_of_mem _ hx)
    have h2 := placesRow_len k n 0 r
    have h3 := h r List.mem_cons_self
    rw [placesFrom, List.length_append, List.length_cons]
    lia
theorem soFar_len {k : Kd} {rs : Rows} (b : Bnd rs) (i j : Nat) : (soFar k rs i j).length ≤ 24 := by
  have h1 := (soFar_pre (k := k) (rs := rs) (i := i) (j := j)).length_le
  have h2 := placesFrom_len k 0 rs fun r hr => by
    obtain ⟨i, hi⟩ := List.getElem?_of_mem hr
    exact b.len i r hi
  have h3 := b.hi
  unfold places at h1
  lia
theorem sum_set : ∀ {cs : List Nat} {h c : Nat}, cs[h]? = some c → (cs.set h (c + 1)).sum = cs.sum + 1
  | [], _, _, e => by simp at e
  | a :: cs, 0, c, e => by
    have : a = c := by simpa using e
    subst this
    simp
    lia
  | a :: cs, h + 1, c, e => by
    rw [List.set_cons_succ, List.sum_cons, List.sum_cons, sum_set (by simpa using e)]
    lia
theorem sum_le : ∀ {cs : List Nat} {rs : Rows}, cs.length = rs.length → (∀ (h c : Nat) (r : List Ev), cs[h]? = some c → rs[h]? = some r → c ≤ r.length) → cs.sum ≤ (rs.map List.length).sum
  | [], [], _, _ => Nat.le_refl _
  | c :: cs, r :: rs, hl, h => by
    have h0 := h 0 c r rfl rfl
    have ih := sum_le (cs := cs) (rs := rs) (by simpa using hl) fun i c r h1 h2 => h (i + 1) c r (by simpa using h1) (by simpa using h2)
    rw [List.sum_cons, List.map_cons, List.sum_cons]
    lia
theorem Reach.sum {rs : Rows} {cs : List Nat} (q : Reach rs cs) : cs.sum ≤ (rs.map List.length).sum := sum_le q.len q.le
noncomputable def StuckAt (rs : Rows) (cs : List Nat) (h : Nat) : Prop := ∀ (c : Nat) (e : Ev), cs[h]? = some c → at? rs h c = some e → ¬ Free rs cs e
theorem csV_get {cs : List Nat} {h c : Nat} (e : cs[h]? = some c) : atI (csV cs) ((h : Nat) : Int) = some (.int (c : Nat)) := by
  refine atI_nat ?_
  unfold csV
  rw [List.getElem?_map, e]
  rfl
theorem ixN_nat {n j : Nat} (h : j < n) : ixN n ((j : Nat) : Int) = some j := by
  unfold ixN
  rw [if_pos (by lia), if_pos (by lia)]
  simp
structure DoneI (H H2 : Hp) (c : Addr) (cs : List Nat) (rs : Rows) : Prop where
  same : Same H H2
  hc : H2 c = some (.lst (csV cs))
  rc : Reach rs cs
theorem DoneI.new {H H2 : Hp} {c : Addr} {cs : List Nat} {rs : Rows} (d : DoneI H H2 c cs rs) {p : Addr} {o : HO} (hp : H2 p = none) : DoneI H (L2.upd H2 p o) c cs rs := ⟨d.same.trans (Same.new hp), Same.new hp _ _ d.hc, d.rc⟩
theorem DoneI.step {H H2 : Hp} {c : Addr} {cs : List Nat} {rs : Rows} (d : DoneI H H2 c cs rs) (hc : H c = none) {i ci : Nat} {e : Ev} (h1 : cs[i]? = some ci) (h2 : at? rs i ci = some e) (h3 : Free rs cs e) : DoneI H (L2.upd H2 c (.lst ((csV cs).set i (.int ((ci : Nat) + 1 : Int))))) c (cs.set i (ci + 1)) rs := by
  refine ⟨fun b o z => by rw [upd_ne (ne_of_none z hc)]; exact d.same b o z, ?_, d.rc.step h1 h2 h3⟩
  rw [upd_same]
  unfold csV
  rw [List.map_set]
  rfl
theorem nRS : ¬ (("rows" : Str) = "sends") := by decide +kernel
theorem nRT : ¬ (("rows" : Str) = "takes") := by decide +kernel
theorem nST : ¬ (("sends" : Str) = "takes") := by decide +kernel
theorem lk_one {f : Str} {v : V} {r : List (Str × V)} : ((f, v) :: r).lookup f = some v := by rw [List.lookup_cons, beq_self_eq_true]
theorem lk_two {f g : Str} {v : V} {r : List (Str × V)} (h : ¬ f = g) : ((g, v) :: r).lookup f = r.lookup f := by
  rw [List.lookup_cons]
  have : (f == g) = false := by simpa using h
  rw [this]
theorem put1 (a : Addr) : putF "rows" (.ref a) [] = [(("rows" : Str), V.ref a)] := rfl
theorem put2 (a sd : Addr) : putF "sends" (.ref sd) [(("rows" : Str), V.ref a)] = ([(("rows" : Str), V.ref a), (("sends" : Str), V.ref sd)] : List (Str × V)) := by
  show (if ("rows" : Str) = "sends" then _ else (("rows" : Str), V.ref a) :: putF "sends" (.ref sd) []) = _
  rw [if_neg nRS]
  rfl
theorem put3 (a sd td : Addr) : putF "takes" (.ref td) [(("rows" : Str), V.ref a), (("sends" : Str), V.ref sd)] = recF a sd td := by
  show (if ("rows" : Str) = "takes" then _ else (("rows" : Str), V.ref a) :: (if ("sends" : Str) = "takes" then _ else (("sends" : Str), V.ref sd) :: putF "takes" (.ref td) [])) = _
  rw [if_neg nRT, if_neg nST]
  rfl
theorem rec_rows (a sd td : Addr) : (recF a sd td).lookup ("rows" : Str) = some (V.ref a) := lk_one
theorem rec_sends (a sd td : Addr) : (recF a sd td).lookup ("sends" : Str) = some (V.ref sd) := by
  unfold recF
  rw [lk_two (fun z => nRS z.symm), lk_one]
theorem rec_takes (a sd td : Addr) : (recF a sd td).lookup ("takes" : Str) = some (V.ref td) := by
  unfold recF
  rw [lk_two (fun z => nRT z.symm), lk_two (fun z => nST z.symm), lk_one]
theorem SendsA.keep {S : Addr → Prop} {H H' : Hp} {d : Addr} {rs : Rows} (k : Kept S H H') (n : NoTup S H) (nd : ¬ S d) (h : SendsA H d rs) : SendsA H' d rs := by
  obtain ⟨kvs, rd, m⟩ := h
  refine ⟨kvs, ?_, Paired.mapP m fun x y z => z.keep k n⟩
  rcases rd with rd | ⟨o, rd⟩
  · exact .inl (k _ _ rd nd)
  · exact .inr ⟨o, k _ _ rd nd⟩
theorem TakesA.keep {S : Addr → Prop} {H H' : Hp} {d : Addr} {rs : Rows} (k : Kept S H H') (n : NoTup S H) (nd : ¬ S d) (h : TakesA H d rs) : TakesA H' d rs := by
  obtain ⟨kvs, rd, m⟩ := h
  refine ⟨kvs, ?_, Paired.mapP m fun x y z => z.keep k n⟩
  rcases rd with rd | ⟨o, rd⟩
  · exact .inl (k _ _ rd nd)
  · exact .inr ⟨o, k _ _ rd nd⟩
theorem RecA.keep {S : Addr → Prop} {C : Addr} {H H' : Hp} {x a sd td : Addr} {ps : List Addr} {rs : Rows} (k : Kept S H H') (n : NoTup S H) (nx : ¬ S x) (na : ¬ S a) (np : ∀ p ∈ ps, ¬ S p) (ns : ¬ S sd) (nt : ¬ S td) (h : RecA C H x rs a ps sd td) : RecA C H' x rs a ps sd td :=
  ⟨let ⟨dx, e⟩ := h.ob; ⟨dx, k _ _ e nx⟩, h.rows.keep k n na np, h.sends.keep k n ns, h.takes.keep k n nt, h.val⟩
theorem RecA.same {C : Addr} {H H' : Hp} {x a sd td : Addr} {ps : List Addr} {rs : Rows} (k : Same H H') (h : RecA C H x rs a ps sd td) : RecA C H' x rs a ps sd td :=
  h.keep (S := fun _ => False) (fun b o e _ => k b o e) (fun _ _ z => z.elim) (fun z => z) (fun z => z) (fun _ _ z => z) (fun z => z) (fun z => z)
theorem taken_sent {H H' : Hp} {rs : Rows} (v : Val rs) {skvs tkvs : List (Key × V)} (hs : Paired (PlA H) skvs (places .send rs)) (ht : Paired (PlA H') tkvs (places .take rs)) : ∀ kv ∈ tkvs, (valV skvs kv.1).isSome = true := by
  intro kv hk
  obtain ⟨i, hi⟩ := List.getElem?_of_mem hk
  obtain ⟨⟨l, h, p⟩, hx, he, _⟩ := Paired.get ht hi
  obtain ⟨e, ha, hk', hl⟩ := mem_places.mp (List.mem_of_getElem? hx)
  obtain ⟨h', p', e', ha', hk2, hl2⟩ := v.sent h p e ha hk'
  obtain ⟨t, hv, _⟩ := pl_some hs (places_nodup v.us) (mem_places.mpr ⟨e', ha', hk2, hl2.trans hl⟩)
  rw [he, hv]
  rfl
noncomputable def kdOf (j : Int) : Kd := if j = 1 ∨ j = 3 then .send else if j = 2 then .take else .own
theorem kd_at {j : Int} (h0 : 0 ≤ j) (h4 : j < 4) : atI [V.str "own", V.str "send", V.str "take", V.str "send"] j = some (.str (kdOf j).str) := by
  have : j = 0 ∨ j = 1 ∨ j = 2 ∨ j = 3 := by lia
  rcases this with rfl | rfl | rfl | rfl <;> rfl
structure RecI (H H3 : Hp) (D lb : Addr) (qs : List Addr) (rs : Rows) (ls : List Int) (i : Nat) : Prop where
  same : Same H H3
  rows : RowsA H3 D qs rs
  lets : H3 lb = some (.lst (ls.map V.int))
  draw : ∃ n, Draw rs ls n
  tot : (rs.map List.length).sum ≤ i
  lsl : ls.length ≤ i
theorem sum_app : ∀ {rs : Rows} {h : Nat} {r : List Ev} {e : Ev}, rs[h]? = some r → ((rs.set h (r ++ [e])).map List.length).sum = (rs.map List.length).sum + 1
  | [], _, _, _, q => by simp at q
  | a :: rs, 0, r, e, q => by
    have : a = r := by simpa using q
    subst this
    simp
    lia
  | a :: rs, h + 1, r, e, q => by
    rw [List.set_cons_succ, List.map_cons, List.sum_cons, sum_app (by simpa using q), List.map_cons, List.sum_cons]
    lia
theorem RecI.mono {H H3 : Hp} {D lb : Addr} {qs : List Addr} {rs : Rows} {ls : List Int} {i j : Nat} (d : RecI H H3 D lb qs rs ls i) (h : i ≤ j) : RecI H H3 D lb qs rs ls j := ⟨d.same, d.rows, d.lets, d.draw, Nat.le_trans d.tot h, Nat.le_trans d.lsl h⟩
theorem RecI.new {H H3 : Hp} {D lb : Addr} {qs : List Addr} {rs : Rows} {ls : List Int} {i : Nat} (d : RecI H H3 D lb qs rs ls i) {p : Addr} {o : HO} (hp : H3 p = none) : RecI H (L2.upd H3 p o) D lb qs rs ls i :=
  ⟨d.same.trans (Same.new hp), d.rows.same (Same.new hp), Same.new hp _ _ d.lets, d.draw, d.tot, d.lsl⟩
theorem RecI.lst {H H3 : Hp} {D lb : Addr} {qs : List Addr} {rs : Rows} {ls : List Int} {i : Nat} (d : RecI H H3 D lb qs rs ls i) (hlb : H lb = none) (h1 : lb ≠ D) (h2 : lb ∉ qs) (xs : List V) :
    Same H (L2.upd H3 lb (.lst xs)) ∧ RowsA (L2.upd H3 lb (.lst xs)) D qs rs := by
  refine ⟨fun b o z => by rw [upd_ne (ne_of_none z hlb)]; exact d.same b o z, d.rows.keep (S := fun b => b = lb) (Kept.upd rfl) (fun b ys hb z => by rw [hb, d.lets] at z; cases z) (fun z => h1 z.symm) (fun p hp z => h2 (z ▸ hp))⟩
theorem rec_more {H H3 : Hp} {D lb p t : Addr} {qs : List Addr} {rs : Rows} {ls : List Int} {i h : Nat} {r : List Ev} {xs : List V} {e : Ev} (s3 : Same H H3) (R3 : RowsA H3 D qs rs) (L3 : H3 lb = some (.lst (ls.map V.int))) (tot : (rs.map List.length).sum ≤ i) (lsl : ls.length ≤ i + 1)
    (hq : ∀ q ∈ qs, H q = none) (nd : qs.Nodup) (nD : D ∉ qs) (hlq : lb ∉ qs) (hp : qs[h]? = some p) (hr : rs[h]? = some r) (hx : H3 p = some (.lst xs)) (ht : H3 t = none) (dr : ∃ n, Draw (app rs h e) ls n) :
    RecI H (L2.upd (L2.upd H3 t (.tup e.vs)) p (.lst (xs ++ [.ref t]))) D lb qs (app rs h e) ls (i + 1) := by
  have s4 : Same H3 (L2.upd H3 t (.tup e.vs)) := Same.new ht
  have pm : p ∈ qs := List.mem_of_getElem? hp
  refine ⟨fun b o z => ?_, (R3.same s4).more nd nD hp hr (s4 _ _ hx) upd_same, ?_, dr, ?_, lsl⟩
  · rw [upd_ne (ne_of_none z (hq p pm))]
    exact s4 _ _ (s3 _ _ z)
  · rw [upd_ne (by rintro rfl; exact hlq pm)]
    exact s4 _ _ L3
  · unfold app
    rw [hr, Option.getD_some, sum_app hr]
    lia
theorem ints_mean (K : PySem.W.Frag) {H : Hp} {a : Addr} {ls : List Int} (h : H a = some (.lst (ls.map V.int))) : MLst K MFl H (.ref a) (ls.map V.int) := by
  refine ⟨a, _, rfl, SqL.of h, ?_⟩
  clear h
  induction ls with
  | nil => exact .nil
  | cons n ls ih => exact .cons ⟨rfl, rfl⟩ ih
theorem erase_map : ∀ (ls : List Int) (j : Nat), (ls.map V.int).eraseIdx j = (ls.eraseIdx j).map V.int
  | [], _ => rfl
  | _ :: _, 0 => rfl
  | x :: ls, j + 1 => by rw [List.map_cons, List.eraseIdx_cons_succ, List.eraseIdx_cons_succ, List.map_cons, erase_map ls j]
theorem ints_at {ns : List Int} {h : Nat} {n : Int} (e : ns[h]? = some n) : atI (ns.map V.int) ((h : Nat) : Int) = some (.int n) := by
  refine atI_nat ?_
  rw [List.getElem?_map, e]
  rfl
end
end Cw

set_option Elab.async false
set_option linter.all false
set_option maxRecDepth 100000
set_option maxHeartbeats 4000000
namespace L2
open PySem PySem.Spec PyProof.Rows
section
variable {prog : Program} {w : World} {A : Around} {E : Value → Shared → Prop} {s : Shared}
end
end L2

set_option Elab.async false
set_option linter.all false
set_option maxRecDepth 100000
set_option maxHeartbeats 4000000
namespace Cw
open PySem L2
end Cw

set_option Elab.async false
set_option linter.all false
set_option maxRecDepth 100000
set_option maxHeartbeats 4000000
namespace L2
open PySem PySem.Spec PyProof.Rows
section
variable {prog : Program} {w : World} {A : Around} {E : Value → Shared → Prop} {s : Shared}
end
section
variable {prog : Program} {w : World} {A : Around} {E : Value → Shared → Prop} {s : Shared}
end
section
variable {X : Cx} {pins : List (Addr × Obj)} {σ : St} {H : Hp} {s : Shared} {h' : Heap}
end
section
variable {X : Cx}
end
end L2

set_option Elab.async false
set_option linter.all false
set_option maxRecDepth 100000
set_option maxHeartbeats 4000000
namespace L2
open PySem PySem.Spec PyProof.Rows
theorem Same.off {H H2 : Hp} {b : Addr} {o : HO} (s : Same H H2) (hb : H b = none) : Same H (upd H2 b o) := fun c u z => by rw [upd_ne (ne_of_none z hb)]; exact s c u z
end L2
namespace Cw
open PySem L2
noncomputable def FreeI (rs : Rows) (ns : List Int) (e : Ev) : Prop := e.k = .take → ∃ (h p : Nat) (n : Int) (e' : Ev), at? rs h p = some e' ∧ e'.k = .send ∧ e'.l = e.l ∧ ns[h]? = some n ∧ (p : Int) < n
noncomputable def natI (cs : List Nat) : List Int := cs.map fun n => ((n : Nat) : Int)
theorem csV_natI (cs : List Nat) : csV cs = (natI cs).map V.int := by
  unfold csV natI
  rw [List.map_map]
  rfl
theorem natI_len (cs : List Nat) : (natI cs).length = cs.length := by unfold natI; rw [List.length_map]
theorem natI_get {cs : List Nat} {h : Nat} : (natI cs)[h]? = (cs[h]?).map fun n => ((n : Nat) : Int) := by unfold natI; rw [List.getElem?_map]
theorem freeI_nat {rs : Rows} {cs : List Nat} {e : Ev} : FreeI rs (natI cs) e ↔ Free rs cs e := by
  constructor
  · intro h hk
    obtain ⟨h', p, n, e', a, b, c, d, lt⟩ := h hk
    rw [natI_get] at d
    obtain ⟨m, hm, rfl⟩ := Option.map_eq_some_iff.mp d
    exact ⟨h', p, m, e', a, b, c, hm, by lia⟩
  · intro h hk
    obtain ⟨h', p, m, e', a, b, c, d, lt⟩ := h hk
    exact ⟨h', p, m, e', a, b, c, by rw [natI_get, d]; rfl, by lia⟩
inductive sp_canSP (K : PySem.W.Frag) (vs : List V) (H : Hp) (Q : VK) (x_3 : XK) : Prop
  | mk (t : Addr) (sd : Addr) (c : Addr) (e : Ev) (ns : List Int) (rs : Rows) (h_0 : vs = [.ref t, .ref sd, .ref c]) (h_1 : H t = some (.tup e.vs)) (h_2 : SendsA H sd rs) (h_3 : Sq K H c (ns.map V.int)) (h_4 : ns.length = rs.length) (h_5 : Uniq .send rs) (h_6 : (e.k = .take → ∃ (h' p' : Nat) (e' : Ev), at? rs h' p' = some e' ∧ e'.k = .send ∧ e'.l = e.l)) (h_7 : ∀ b : Bool, (b = true ↔ FreeI rs ns e) → Q (.bl b) H)
noncomputable def sp_canS (K : PySem.W.Frag) : Sp := fun vs H Q x_3 => sp_canSP K vs H Q x_3
theorem can_of_canS {K : PySem.W.Frag} {vs : List V} {H : Hp} {Q : VK} {E : XK} (h : sp_can vs H Q E) : sp_canS K vs H Q E := by
  obtain ⟨t, sd, c, e, cs, rs, e1, h1, h2, h3, h4, h5, h6, q⟩ := h
  refine ⟨t, sd, c, e, natI cs, rs, e1, h1, h2, .inl (SqL.of (by rw [← csV_natI]; exact h3)), by rw [natI_len]; exact h4, h5, h6, fun b hb => q b ?_⟩
  rw [hb, freeI_nat]
end Cw

set_option Elab.async false
set_option linter.all false
set_option maxRecDepth 100000
set_option maxHeartbeats 4000000
namespace L2
open PySem PySem.Spec PyProof.Rows
inductive rIntBP (xs : List V) (H : Hp) (Q : VK) : Prop
  | mk (b : Bool) (h_0 : xs = [.bl b]) (h_1 : Q (.int (if b then 1 else 0)) H)
noncomputable def rIntB : List V → Hp → VK → Prop := fun xs H Q => rIntBP xs H Q
theorem call_intB {X : Cx} : CallR X (.type "int") rIntB := by
  intro pins s σ H xs us Q I r h
  obtain ⟨b, rfl, q⟩ := h
  obtain ⟨u, rfl, ru⟩ := vals1 r
  cases ru
  exact call_int_bool ⟨.int (if b then 1 else 0), H, I.tok _, ⟨_, rfl⟩, q⟩
theorem seq_set {i : Nat} {v : V} {r : TS} {D : Ends} {σ : St} {H : Hp} (h : r D (σ.set i (some v)) H) : tSeq (tAsg (tC v) (gName i)) r D σ H := h
theorem if_mid {tc : TT} {t r : TS} {D : Ends} {σ : St} {H : Hp} (c : Bool) (J : St → Hp → Prop) (hc : ∀ R : Bool → Hp → Prop, R c H → tc σ H R) (h0 : c = false → J σ H)
    (h1 : c = true → (∀ σ' H', J σ' H' → r D σ' H') → t (D.sq r) σ H) (hr : ∀ σ' H', J σ' H' → r D σ' H') : tSeq (tIfS tc t tNext) r D σ H := by
  refine hc _ ?_
  cases c with
  | true => rw [if_pos rfl]; exact h1 rfl hr
  | false => rw [if_neg Bool.false_ne_true]; exact hr _ _ (h0 rfl)
end L2
namespace Cw
open PySem L2
end Cw

set_option Elab.async false
set_option linter.all false
set_option maxRecDepth 100000
set_option maxHeartbeats 4000000
namespace Cw
open PySem L2
theorem lt_of_get {α : Type} {l : List α} {h : Nat} {x : α} (e : l[h]? = some x) : h < l.length := (List.getElem?_eq_some_iff.mp e).1
theorem snoc_take {α : Type} {l : List α} {i : Nat} {x : α} (h : l[i]? = some x) : l.take (i + 1) = l.take i ++ [x] := by rw [List.take_add_one, h]; rfl
end Cw
namespace Cw
open PySem L2
end Cw

set_option Elab.async false
set_option linter.all false
set_option maxRecDepth 100000
set_option maxHeartbeats 4000000
namespace Cw
open PySem L2
end Cw

set_option Elab.async false
set_option linter.all false
set_option maxRecDepth 100000
namespace L2
open PySem PySem.Spec PyProof.Rows

noncomputable def exO (a : Addr) (c : Value) (od : Option Addr) : HO := .ext fun h => ∃ oe vs, h.get? a = some oe ∧ oe.cls = c ∧ oe.dict = od ∧ oe.data = .fields vs ∧ 1 < vs.size

section
variable {P : Program} {w : World} {H H' : Hp} {h h' : Heap} {a : Addr} {o : HO}
theorem ObjOk.there (x : ObjOk P w H h a o) : ∃ ob, h.get? a = some ob := by
  cases o with
  | lst xs => obtain ⟨_, _, _, _, e⟩ := x; exact ⟨_, e⟩
  | tup xs => obtain ⟨_, _, _, ob, e, _⟩ := x; exact ⟨ob, e⟩
  | dK kvs => obtain ⟨_, _, _, _, o, _, _, e, _⟩ := x; exact ⟨_, e⟩
  | dT kvs => obtain ⟨_, _, _, _, o, _, _, e, _⟩ := x; exact ⟨_, e⟩
  | set S n => obtain ⟨o, _, _, _, e, _⟩ := x; exact ⟨_, e⟩
  | ins C dx fs => obtain ⟨_, _, _, e, _⟩ := x; exact ⟨_, e⟩
  | own y => exact x
  | xd fs => obtain ⟨_, ⟨o, _, _, e, _⟩, _⟩ := x; exact ⟨_, e⟩
  | rng lo hi => obtain ⟨_, _, _, e⟩ := x; exact ⟨_, e⟩
  | frz ob u => obtain ⟨e, _⟩ := x; exact ⟨_, e⟩
  | tbl ps => exact ⟨_, x⟩
  | met f y => exact ⟨_, x⟩
  | ext φ => obtain ⟨_, e, _⟩ := x; exact e
end

section
variable {M : Model} {A : Around} {E : Value → Shared → Prop} {s : Shared}
end
end L2

set_option Elab.async false
set_option linter.all false
set_option maxRecDepth 100000
set_option maxHeartbeats 2000000
namespace L2
open PySem PySem.Spec PyProof.Rows
theorem exO_get {P : Program} {w : World} {H : Hp} {h : Heap} {a : Addr} {c : Value} {od : Option Addr} (x : HOk P w H h) (e : H a = some (exO a c od)) :
    ∃ oe vs, h.get? a = some oe ∧ oe.cls = c ∧ oe.dict = od ∧ oe.data = .fields vs ∧ 1 < vs.size := (x a _ e).1
section
variable {X : Cx} {pins : List (Addr × Obj)} {σ : St} {H : Hp} {s : Shared} {M : Model} {E : Value → Shared → Prop}
end

section
variable {P : Program} {w : World} {K : PySem.W.Frag} {mg : Str → Option Value} {base : Heap}
end
end L2

set_option Elab.async false
set_option linter.all false
set_option maxRecDepth 100000
set_option maxHeartbeats 2000000
namespace L2
open PySem PySem.Spec PyProof.Rows

section
variable {X : Cx} {k : Nat} {f C : Addr} {fd : FuncData} {ps : List Str} {sp : Sp} {W : St → XK} {x m : Str} {p pos apos : Pos} {e o : Expr} {es : List Expr} {ta : TE} {t : TA}
end

end L2

set_option Elab.async false
set_option linter.all false
set_option maxRecDepth 100000
set_option maxHeartbeats 2000000
namespace L2
open PySem PySem.Spec PyProof.Rows
structure XAt (K : PySem.W.Frag) (C : Addr) : Prop where
  ga : PySem.W.findIn K (.ref C) "__getattribute__" = some (some (.builtin "BaseException.__getattribute__"))
  gx : PySem.W.findIn K (.ref C) "__getattr__" = some none
  cl : PySem.W.findIn K (.ref C) "__class__" = some (some (.builtin "object.__class__"))
  mo : PySem.W.mroIn K C (.type "object") = some true
  mb : PySem.W.mroIn K C (.type "BaseException") = some true
  is : PySem.W.isClsIn K C = true
section
variable {prog : Program} {w : World} {A : Around} {E : Value → Shared → Prop} {h : Heap} {g : Array GenState} {d : Drawn} {t : Nat} {os : OsState} {a C : Addr} {ox : Obj} {od : Option Obj} {K : PySem.W.Frag}
theorem xc_entry {tk : Tok} {Q : Fin → Shared → Prop} (X : K.In h) (I : PySem.W.InstAt h a ox C od) (x : XAt K C) (hq : Q (.done (.ret (.ref C))) ⟨h, g, d, t, os⟩) :
    wpAny (model prog w) A (Builtin.«object.__getattribute__» ⟨[.ref a, .str "__class__" tk], []⟩) Q E ⟨h, g, d, t, os⟩ := by
  have hT5 : (⟨h, g, d, t, os⟩ : Shared).TypeIs (.builtin "object.__class__") "getset_descriptor" := F.typeOf_object_class
  have f5 := F.typeOf_object_class
  have f6 := F.slot_gs_get.lookup
  have f7 := F.slot_gs_set.lookup
  have L0 := I.type (M := model prog w)
  have L1 := PySem.W.looks_findIn (M := model prog w) X x.cl
  repeat (any_goals (first | assumption | (with_reducible refine wpAny_loadPart_at I.at_ ?_; rw [I.cls]) | with_reducible refine L0.at ?_ | with_reducible refine L1.at ?_ | wp_step))
  refine PySem.W.class_get (s := ⟨h, g, d, t, os⟩) X I x.mo ?_
  repeat (any_goals (first | assumption | wp_step))
theorem xc_check {M : Model} {nameV : Value} {Q : Unit → Shared → Prop} (X : K.In h) (I : PySem.W.InstAt h a ox C od) (x : XAt K C) (hq : Q () ⟨h, g, d, t, os⟩) : wpAny M A (checkBuiltinCall "BaseException.__getattribute__" ⟨[.ref a, nameV], []⟩) Q E ⟨h, g, d, t, os⟩ := by
  have hk : builtinKind "BaseException.__getattribute__" = some .slot := by decide +kernel
  have hsplit : splitId "BaseException.__getattribute__" = some ("BaseException", "__getattribute__") := by decide +kernel
  have ha := F.args_bexc_ga (.ref a) nameV
  have L0 : PySem.W.Looks M h (isInstance (.ref a) (.type "BaseException")) true := (I.type (M := M)).andThen (PySem.W.looks_mroIn X x.mb)
  simp only [checkBuiltinCall, hk, hsplit]
  refine wpAny_bind (L0.at ?_)
  repeat (any_goals (first | assumption | wp_step))
theorem xc_by {tk : Tok} {fill expr : Bool} {Q : Value → Shared → Prop} (X : K.In h) (I : PySem.W.InstAt h a ox C od) (x : XAt K C) (hq : Q (.ref C) ⟨h, g, d, t, os⟩) :
    wpAny (model prog w) A (getAttrBy (.ref a) (.str "__class__" tk) fill expr) Q E ⟨h, g, d, t, os⟩ := by
  have FB := F.excAttr_ValueError
  have f3 := FB.ga.bind (.ref a)
  have hx0 : (expr && onTheHeap (Value.builtin "BaseException.__getattribute__")) = false := by cases expr <;> rfl
  have hx2 : (Value.builtin "BaseException.__getattribute__" == Value.builtin "object.__getattribute__") = false := by decide +kernel
  have hx1 : (onTheHeap (Value.ref C) && Value.builtin "BaseException.__getattribute__" == Value.builtin "object.__getattribute__") = false := by rw [hx2]; rfl
  have L0 := I.type (M := model prog w)
  have L1 := PySem.W.looks_findIn (M := model prog w) X x.ga
  have L2 := PySem.W.looks_findIn (M := model prog w) X x.gx
  repeat (any_goals (first | assumption | (with_reducible refine wpAny_loadPart_at I.at_ ?_; rw [I.cls]) | with_reducible refine L0.at ?_ | with_reducible refine L1.at ?_ | with_reducible refine L2.at ?_ | wp_step))
  refine codeAny_call_builtin FB.ga.plain F.entry_bexc_ga (xc_check X I x (xc_entry X I x ?_))
  repeat (any_goals (first | assumption | wp_step))
theorem xc_attr {Q : Option Value → Shared → Prop} (X : K.In h) (I : PySem.W.InstAt h a ox C od) (x : XAt K C) (hq : Q (some (.ref C)) ⟨h, g, d, t + 1, os⟩) :
    wpAny (model prog w) A (getAttr? (.ref a) "__class__") Q E ⟨h, g, d, t, os⟩ := by
  unfold getAttr? getAttrBy?
  refine wpAny_bind (wpAny_mkText ?_)
  refine wpAny_bind (wpAny_attempt (xc_by X I x ?_))
  repeat (any_goals (first | assumption | wp_step))
theorem kitx_exc (x : XAt K C) : PySem.W.KitX K (.ref a) (.ref C) (fun h => ∃ ox od, PySem.W.InstAt h a ox C od) where
  ty := fun _ _ _ ⟨_, _, I⟩ => I.type
  it := fun _ _ X _ => by
    obtain ⟨cdD, hcD⟩ := Option.isSome_iff_exists.mp x.is
    unfold PySem.W.clsIn at hcD
    split at hcD
    · rename_i c' d' cd' sl' ho
      intro A' Q' E' s' k q
      unfold isType loadHead
      exact wpAny_bind (wpAny_loadPart (k _ _ (X _ _ ho)) (wpAny_pure q))
    · cases hcD
  ne := fun h tp dd its n sl X htp => by
    obtain ⟨cdD, hcD⟩ := Option.isSome_iff_exists.mp x.is
    refine Bool.eq_false_iff.mpr fun q => ?_
    have e : C = tp := Value.ref.inj (beq_iff_eq.mp q)
    subst e
    unfold PySem.W.clsIn at hcD
    split at hcD
    · rename_i c' d' cd' sl' ho
      have z := (X _ _ ho).symm.trans htp
      cases z
    · cases hcD
  ca := fun {_ _ _ _ _ s} X ⟨_, _, I⟩ k => by obtain ⟨h, g, d, t, os⟩ := s; exact xc_attr X I x k
end
end L2

set_option Elab.async false
set_option linter.all false
set_option maxRecDepth 100000
set_option maxHeartbeats 2000000
namespace L2
open PySem PySem.Spec PyProof.Rows
noncomputable abbrev TJ := Str → St → Hp → (Str → Hp → Prop) → Prop
noncomputable def PJ (X : Cx) (es : List Expr) (t : TJ) : Prop := ∀ (out : Str) (pins : List (Addr × Obj)) (s : Shared) (σ : St) (H : Hp) (Q : VK), Inv X pins σ H s → (t out σ H fun x H1 => Q (.str x) H1) →
  wpAny (model X.prog X.w) X.A (joinParts out (evalEach es X.env)) (EP X pins σ Q) X.xe s
noncomputable def tJNil : TJ := fun out σ H Q => out.length ≤ sizeLine ∧ Q out H
noncomputable def tJStr (x : Str) (t : TJ) : TJ := fun out σ H Q => (out ++ x).length ≤ sizeLine ∧ t (out ++ x) σ H Q
noncomputable def tJVal (te : TE) (t : TJ) : TJ := fun out σ H Q => te σ H fun v H1 => (∃ i, v = .int i ∧ i.natAbs.log2 < 1920 ∧ (out ++ Str.ofString (toString i)).length ≤ sizeLine ∧ t (out ++ Str.ofString (toString i)) σ H1 Q) ∨
  (∃ x, v = .str x ∧ x.length ≤ sizeLine ∧ (out ++ x).length ≤ sizeLine ∧ t (out ++ x) σ H1 Q)
section
variable {X : Cx} {e : Expr} {es : List Expr} {te : TE} {t : TJ} {pos p2 : Pos}
theorem pj_nil : PJ X [] tJNil := fun out pins s σ H Q I h => joinParts_nil ⟨.str out, H, I.tok _, ⟨_, rfl⟩, h.2⟩ h.1
theorem pj_str {x : Str} {j} (ht : PJ X es t) : PJ X (.Constant (.str x) j pos :: es) (tJStr x t) := fun out pins s σ H Q I h => by
  show wpAny _ _ (joinParts out (eval (.Constant (.str x) j pos) X.env :: evalEach es X.env)) _ _ s
  exact joinParts_cons (Calls.Constant_str ⟨h.1, ht _ pins _ σ H Q (I.tok _) h.2⟩)
theorem pj_val (he : PE X e te) (ht : PJ X es t) : PJ X (.FormattedValue e (-1) none pos :: es) (tJVal te t) := fun out pins s σ H Q I h => by
  show wpAny _ _ (joinParts out (eval (.FormattedValue e (-1) none pos) X.env :: evalEach es X.env)) _ _ s
  refine joinParts_cons (FormattedValue_plain (thn (he pins s σ H _ I h) fun u s1 ⟨v, H1, I1, r, q⟩ => ?_))
  rcases q with ⟨i, rfl, hd, z, q⟩ | ⟨x, rfl, z0, z, q⟩
  · obtain ⟨tk, rfl⟩ := r
    exact formatField_int_small hd ⟨z, ht _ pins _ σ H1 Q (I1.tok _) q⟩
  · obtain ⟨tk, rfl⟩ := r
    exact formatField_str (fun t' tk' => ⟨z, ht _ pins _ σ H1 Q (I1.tok _) q⟩) z0
theorem pe_fstr {v₁ v₂ : Expr} (ht : PJ X (v₁ :: v₂ :: es) t) : PE X (.JoinedStr (v₁ :: v₂ :: es) pos) (fun σ H Q => t Str.empty σ H fun x H1 => Q (.str x) H1) := fun pins s σ H Q I h =>
  JoinedStr_many (ht _ pins s σ H Q I h)
end

inductive TyX (K : PySem.W.Frag) (H : Hp) : V → Value → Prop where
  | of {x : V} {t : Value} (h : TyOf K H x t) : TyX K H x t
  | exc {a C : Addr} (e : H a = some (exO a (.ref C) none)) (x : XAt K C) : TyX K H (.ref a) (.ref C)
  | excD {a C dx : Addr} {fs : List (Str × V)} (e : H a = some (exO a (.ref C) (some dx))) (d : H dx = some (.xd fs)) (x : XAt K C) : TyX K H (.ref a) (.ref C)
theorem notCls_fields {o : Obj} {vs : Array Value} (h : o.data = .fields vs) : PySem.W.notCls o = true := by
  obtain ⟨c, d, dt, sl⟩ := o; subst h; rfl
section
variable {X : Cx} {pins : List (Addr × Obj)} {σ : St} {H : Hp} {s : Shared} {A : Around} {E : Value → Shared → Prop} {Q : Value → Shared → Prop} {c : Value} {b : Bool}
theorem isinstX_ok {x : V} {u t : Value} (I : Inv X pins σ H s) (rx : RelV x u) (ty : TyX X.K H x t) (e : PySem.W.kitOne X.K t c = some b) (h : ∀ tk, Q (.bool b) { s with toks := tk }) :
    wpAny (model X.prog X.w) A (call (.builtin "isinstance") [u, c]) Q E s := by
  cases ty with
  | of h' => exact isinst_ok I rx h' e h
  | @exc a C ea xa =>
    cases (show u = Value.ref a from rx)
    obtain ⟨oe, vs, he, hc, hdc, hd, _⟩ := exO_get I.hok ea
    refine PySem.W.kia_one (kitx_exc xa) I.kIn ⟨oe, none, he, hc, notCls_fields hd, ?_⟩ e (fun z => nomatch z) h
    rw [hdc]; trivial
  | @excD a C dx fs ea d xa =>
    cases (show u = Value.ref a from rx)
    obtain ⟨oe, vs, he, hc, hdc, hd, _⟩ := exO_get I.hok ea
    obtain ⟨ob, hob⟩ := (I.hok dx _ d).there
    refine PySem.W.kia_one (kitx_exc xa) I.kIn ⟨oe, some ob, he, hc, notCls_fields hd, ?_⟩ e (fun z => nomatch z) h
    rw [hdc]; exact hob
end
noncomputable def clsV : V → Option Value
  | .ty n => some (.type n)
  | .ref C => some (.ref C)
  | _ => none
theorem call_isinstX {X : Cx} : CallR X (.builtin "isinstance") (fun xs H Q => ∃ x y c t b, xs = [x, y] ∧ clsV y = some c ∧ TyX X.K H x t ∧ PySem.W.kitOne X.K t c = some b ∧ Q (.bl b) H) := by
  intro pins s σ H xs us Q I r h
  obtain ⟨x, y, c, t, b, e, ey, ty, k, q⟩ := h
  subst e
  obtain ⟨u, v, e2, rx, rc⟩ := vals2 r
  subst e2
  have hv : v = c := by
    cases y with
    | ty n => cases ey; exact rc
    | ref C => cases ey; exact rc
    | _ => cases ey
  subst hv
  exact isinstX_ok I rx ty k fun tk => ⟨.bl b, H, I.tok _, rfl, q⟩
end L2

set_option Elab.async false
set_option linter.all false
set_option maxRecDepth 100000
set_option maxHeartbeats 2000000
namespace L2
open PySem PySem.Spec PyProof.Rows
section
variable {X : Cx} {pins p0 : List (Addr × Obj)} {σ : St} {H : Hp} {s : Shared} {E : Value → Shared → Prop} {v : Value}
end


section
variable {X : Cx} {x n : Str} {R : Addr} {i : Nat} {np hpos pos : Pos} {b₀ : Stmt} {suite : List Stmt} {th : TS}
end
end L2

set_option Elab.async false
set_option linter.all false
set_option maxRecDepth 100000
set_option maxHeartbeats 2000000
namespace L2
open PySem PySem.Spec PyProof.Rows
section
variable {X : Cx} {k : Nat} {C : Addr} {x m : Str} {ps : List Str} {sp : Sp} {W : St → XK} {o e : Expr} {es : List Expr} {ta : TE} {t : TA} {p apos pos : Pos}
end

section
variable {X : Cx} {e : Expr} {es : List Expr} {te : TE} {t : TM} {pos p2 : Pos}
end
theorem log_small {i : Int} (h1 : -(2 ^ 64) < i) (h2 : i < 2 ^ 64) : i.natAbs.log2 < 1920 := by
  by_cases e : i.natAbs = 0
  · rw [e]; decide
  · refine (Nat.log2_lt e).mpr ?_
    have : i.natAbs < 2 ^ 64 := by lia
    exact Nat.lt_of_lt_of_le this (Nat.pow_le_pow_right (by decide) (by decide))

section
variable {X : Cx} {α : Type} {M : Hp → V → α → Prop} {d : Nat} [DecidableEq α]
end
end L2

set_option Elab.async false
set_option linter.all false
set_option maxRecDepth 100000
set_option maxHeartbeats 4000000
namespace Cw
open PySem L2
end Cw

set_option Elab.async false
set_option linter.all false
set_option maxRecDepth 100000
set_option maxHeartbeats 4000000
namespace L2
open PySem PySem.Spec PyProof.Rows
theorem bools_of {bs : List Bool} : ∀ {its : List Value}, Vals (bs.map V.bl) its → its = bs.map Value.bool := by
  induction bs with
  | nil => intro its h; cases h; rfl
  | cons b bs ih =>
    intro its h
    rw [List.map_cons] at h
    cases h with
    | cons r t => rw [show _ = Value.bool b from r, ih t]; rfl
theorem truth_bools {prog : Program} {w : World} {A : Around} (bs : List Bool) : TruthOf prog w A (fun i v => (bs.map Value.bool).toArray[i]? = some v) (fun i => (bs[i]?).getD false) := by
  intro i v s Q E hP hQ
  have e : (bs.map Value.bool)[i]? = some v := by simpa using hP
  rw [List.getElem?_map] at e
  cases h : bs[i]? with
  | none => rw [h] at e; cases e
  | some b =>
    rw [h] at e
    have hQ : Q ((bs[i]?).getD false) s := hQ
    rw [h] at hQ
    cases e
    exact wpAny_truthy_bool hQ
theorem range_all (bs : List Bool) : (List.range bs.length).all (fun i => (bs[i]?).getD false) = bs.all id := by
  induction bs with
  | nil => rfl
  | cons b bs ih =>
    rw [List.length_cons, List.range_succ_eq_map, List.all_cons, List.all_map, List.all_cons]
    rw [← ih]
    rfl
inductive rAllP (K : PySem.W.Frag) (xs : List V) (H : Hp) (Q : VK) : Prop
  | mk (p : Addr) (bs : List Bool) (h_0 : xs = [.ref p]) (h_1 : SqL K H p (bs.map V.bl)) (h_2 : Q (.bl (bs.all id)) H)
noncomputable def rAll (K : PySem.W.Frag) : List V → Hp → VK → Prop := fun xs H Q => rAllP K xs H Q
theorem call_all {X : Cx} (hc : X.calm = true) : CallR X (.builtin "all") (rAll X.K) := by
  intro pins s σ H xs us Q I r h
  obtain ⟨p, bs, rfl, hq, q⟩ := h
  obtain ⟨u, rfl, ru⟩ := vals1 r
  cases ru
  obtain ⟨its, rv, pl, _⟩ := I.list hq
  have e := bools_of rv
  subst e
  have hl := pl.isList
  have hlt : p < s.heap.objs.size := by obtain ⟨_, e, _⟩ := hl; exact Heap.lt_size e
  refine call_all_walk (wpAny_pyIter_list hl ⟨_, _, _, _, _, _, _, rfl, Walks.list (A := X.A.in1) (I.ok.hd hc) _ p (Nat.ne_of_lt hlt) _, ⟨⟨_, Heap.get?_push_size _ rfl, rfl, rfl⟩, Heap.IsList.push hl _⟩, truth_bools bs, fun h' tk hk => ?_⟩)
  refine ⟨.bl (bs.all id), H, I.kept (t' := tk) (fun b o e => hk b o (fun hm => ?_) (Heap.get?_push_of_some _ e)), ?_, q⟩
  · have z : b = s.heap.objs.size := by simpa using hm
    exact absurd (z ▸ Heap.lt_size e) (Nat.lt_irrefl _)
  · show Value.bool _ = Value.bool _
    rw [← range_all bs]
    simp
theorem bt_all : bootBuiltins "all" = some (.builtin "all") := by decide +kernel
end L2

set_option Elab.async false
set_option linter.all false
set_option maxRecDepth 100000
set_option maxHeartbeats 4000000
namespace L2
end L2
namespace Cw
open PySem L2
end Cw

set_option Elab.async false
set_option linter.all false
set_option maxRecDepth 100000
set_option maxHeartbeats 4000000
namespace L2
open PySem PySem.Spec PyProof.Rows PySem.W
section
variable {prog : Program} {w : World} {A : Around} {E : Value → Shared → Prop} {s : Shared}
end
end L2

set_option Elab.async false
set_option linter.all false
set_option maxRecDepth 100000
set_option maxHeartbeats 4000000
namespace L2
open PySem PySem.Spec PyProof.Rows PySem.W
section
variable {X : Cx} {tg : Expr}
end
end L2

set_option Elab.async false
set_option linter.all false
set_option maxRecDepth 100000
set_option maxHeartbeats 4000000
namespace L2
open PySem PySem.Spec PyProof.Rows
section
variable {prog : Program} {w : World} {A : Around} {E : Value → Shared → Prop} {s : Shared}
end
end L2

set_option Elab.async false
set_option linter.all false
set_option maxRecDepth 100000
set_option maxHeartbeats 4000000
namespace L2
open PySem PySem.Spec PyProof.Rows PySem.W
end L2

set_option Elab.async false
set_option linter.all false
set_option maxRecDepth 100000
set_option maxHeartbeats 4000000
namespace Cw
open PySem L2
end Cw

set_option Elab.async false
set_option linter.all false
namespace L2
open PySem
section
variable {X : Cx}
theorem call_list_ofI : CallR X (.type "list") (rListOf X.K) := fun pins s σ H xs us Q I r h => by
  obtain ⟨p, ys, a, b, c⟩ := h
  exact call_list_of pins s σ H xs us Q I r ⟨p, ys, a, b, c⟩
theorem call_len_seqI : CallR X (.builtin "len") (rLenS X.K) := fun pins s σ H xs us Q I r h => by
  obtain ⟨p, ys, a, b, c⟩ := h
  exact call_len_seq pins s σ H xs us Q I r ⟨p, ys, a, b, c⟩
end
end L2
namespace Cw
theorem len_1 {α : Type} {us : List α} (h : us.length = 1) : ∃ x0, us = [x0] := List.length_eq_one_iff.mp h
theorem len_2 {α : Type} {us : List α} (h : us.length = 2) : ∃ x0 x1, us = [x0, x1] := by
  cases us with
  | nil => cases h
  | cons a us =>
    obtain ⟨b0, rfl⟩ := len_1 (us := us) (Nat.succ.inj h)
    exact ⟨_, _, rfl⟩
theorem len_3 {α : Type} {us : List α} (h : us.length = 3) : ∃ x0 x1 x2, us = [x0, x1, x2] := by
  cases us with
  | nil => cases h
  | cons a us =>
    obtain ⟨b0, b1, rfl⟩ := len_2 (us := us) (Nat.succ.inj h)
    exact ⟨_, _, _, rfl⟩
end Cw

set_option Elab.async false
set_option linter.all false
set_option maxRecDepth 100000
set_option maxHeartbeats 2000000
namespace L2
open PySem PySem.Spec PyProof.Rows
section
variable {prog : Program} {w : World} {A : Around} {E : Value → Shared → Prop} {s : Shared}
end
end L2

set_option Elab.async false
set_option linter.all false
set_option maxRecDepth 100000
set_option maxHeartbeats 2000000
namespace L2
open PySem PySem.Spec PyProof.Rows
section
variable {X : Cx}
end
end L2

set_option Elab.async false
set_option linter.all false
set_option maxRecDepth 100000
set_option maxHeartbeats 4000000
namespace Cw
open PySem L2
end Cw

set_option Elab.async false
set_option linter.all false
set_option maxRecDepth 100000
set_option maxHeartbeats 4000000
namespace Cw
open PySem L2
end Cw

set_option Elab.async false
set_option linter.all false
set_option maxRecDepth 100000
set_option maxHeartbeats 2000000
namespace L2
open PySem PySem.Spec PyProof.Rows
section
variable {X : Cx} {e : Expr} {es : List Expr} {te : TE} {t : TM} {pos : Pos}
end
end L2

set_option Elab.async false
set_option linter.all false
set_option maxRecDepth 100000
set_option maxHeartbeats 4000000
namespace Cw
open PySem L2
end Cw
namespace Cw
open PySem L2
end Cw
namespace Cw
theorem iteT2 {c A B : Prop} [Decidable c] (hc : c) (h : A) : if decide c = true then A else B := by
  rw [decide_eq_true hc, if_pos rfl]
  exact h
theorem iteNo {b : Bool} {A B : Prop} (hb : b = false) (h : B) : if b = true then A else B := by
  rw [hb, if_neg Bool.false_ne_true]
  exact h
end Cw

set_option Elab.async false
set_option linter.all false
set_option maxRecDepth 100000
set_option maxHeartbeats 2000000
namespace L2
open PySem PySem.Spec PyProof.Rows PySem.Builtin.Str
theorem strs_of {ss : List Str} {its : List Value} (h : Vals (ss.map V.str) its) : ∃ l : List (Str × Tok), its = strValues l ∧ l.map (·.1) = ss := by
  induction ss generalizing its with
  | nil => cases h; exact ⟨[], rfl, rfl⟩
  | cons x ss ih =>
    rw [List.map_cons] at h
    cases h with
    | cons r t =>
      obtain ⟨tk, rfl⟩ := r
      obtain ⟨l, rfl, e⟩ := ih t
      exact ⟨(x, tk) :: l, rfl, by rw [List.map_cons, e]⟩
theorem vals_strs (l : List (Str × Tok)) : Vals ((l.map (·.1)).map V.str) (strValues l) := by
  induction l with
  | nil => exact .nil
  | cons p l ih => exact .cons ⟨p.2, rfl⟩ ih
section
variable {X : Cx}
inductive rSStartsP (x : V) (vs : List V) (H : Hp) (Q : VK) : Prop
  | mk (a b : Str) (h_0 : x = .str a) (h_1 : vs = [.str b]) (h_2 : Q (.bl (Txt.startswith a b)) H)
noncomputable def rSStarts : V → List V → Hp → VK → Prop := fun x vs H Q => rSStartsP x vs H Q
theorem mt_sstarts : MtM X "str.startswith" rSStarts := by
  intro pins s σ H x vs v us Q I rx rv h
  obtain ⟨a, b, rfl, rfl, q⟩ := h
  obtain ⟨t, rfl⟩ := rx
  obtain ⟨u, rfl, ru⟩ := rv.one
  obtain ⟨t2, rfl⟩ := ru
  exact PySem.SC.startswith ⟨.bl _, H, I, rfl, q⟩
inductive rSJoinP (K : PySem.W.Frag) (x : V) (vs : List V) (H : Hp) (Q : VK) : Prop
  | mk (a : Str) (p : Addr) (ss : List Str) (h_0 : x = .str a) (h_1 : vs = [.ref p]) (h_2 : SqL K H p (ss.map V.str)) (h_3 : JoinOk a ss = true) (h_4 : Q (.str (Txt.join a ss)) H)
noncomputable def rSJoin (K : PySem.W.Frag) : V → List V → Hp → VK → Prop := fun x vs H Q => rSJoinP K x vs H Q
theorem mt_sjoin : MtM X "str.join" (rSJoin X.K) := by
  intro pins s σ H x vs v us Q I rx rv h
  obtain ⟨a, p, ss, rfl, rfl, hl, hok, q⟩ := h
  obtain ⟨t, rfl⟩ := rx
  obtain ⟨u, rfl, ru⟩ := rv.one
  cases ru
  obtain ⟨its, r, pl, _⟩ := I.list hl
  obtain ⟨l, rfl, e⟩ := strs_of r
  exact PySem.SC.join pl.isList e hok fun t' k => ⟨.str _, H, I.tok _, ⟨_, rfl⟩, q⟩
inductive rSSplitP (x : V) (vs : List V) (H : Hp) (Q : VK) : Prop
  | mk (a b : Str) (ss : List Str) (h_0 : x = .str a) (h_1 : vs = [.str b]) (h_2 : (b.length == 0) = false) (h_3 : a.length ≤ sizeLine) (h_4 : Txt.split a b = ss) (h_5 : ss.length ≤ sizeLine) (h_6 : ∀ l, H l = none → Q (.ref l) (upd H l (.lst (ss.map V.str))))
noncomputable def rSSplit : V → List V → Hp → VK → Prop := fun x vs H Q => rSSplitP x vs H Q
theorem split_new {pins : List (Addr × Obj)} {σ : St} {H : Hp} {s : Shared} {Q : VK} {l : List (Str × Tok)} {tk : Tok} (I : Inv X pins σ H s) (hz : l.length ≤ sizeLine) (q : ∀ b, H b = none → Q (.ref b) (upd H b (.lst ((l.map (·.1)).map V.str)))) :
    EP X pins σ Q (.ref s.heap.objs.size) { s with heap := s.heap.push { cls := .type "list", data := .seq (strValues l).toArray }, toks := tk } := by
  refine ⟨.ref s.heap.objs.size, upd H s.heap.objs.size (.lst ((l.map (·.1)).map V.str)), I.laid (t' := tk) (fun b u e => Heap.get?_push_of_some _ e) (Nat.le_refl _) ?_, rfl, q _ (I.hok.fresh (Nat.le_refl _))⟩
  exact ⟨by rw [List.length_map, List.length_map]; exact hz, strValues l, 0, vals_strs l, Heap.get?_push_size _ rfl⟩
theorem mt_ssplit : MtM X "str.split" rSSplit := by
  intro pins s σ H x vs v us Q I rx rv h
  obtain ⟨a, b, ss, rfl, rfl, hb, hz, hs, hzs, q⟩ := h
  obtain ⟨t, rfl⟩ := rx
  obtain ⟨u, rfl, ru⟩ := rv.one
  obtain ⟨t2, rfl⟩ := ru
  subst hs
  cases h1 : (decide (a.length < b.length) || decide (strKind a < strKind b))
  · cases hf : (occurrences a b 0 a.length (a.length + 1)).isEmpty
    · have e : Txt.split a b = partsBetween a (occurrences a b 0 a.length (a.length + 1)) b.length := (if_neg (ne_true_of_eq_false h1)).trans (if_neg (ne_true_of_eq_false hf))
      rw [e] at q hzs
      refine call_meets F.slot_str_split (typeIs_str _ _ _) F.entry_str_split (F.args_str_split_2 _ _) (meets_str_split_sep a b t t2 h1 hb hf hz hzs) ?_
      show EP X pins σ Q _ { s with toks := _, heap := s.heap.push { cls := .type "list", data := .seq (strsFrom s.toks (partsBetween a (occurrences a b 0 a.length (a.length + 1)) b.length)).toArray } }
      rw [strsFrom_eq]
      refine split_new I ?_ (by rw [numbered_texts]; exact q)
      have := congrArg List.length (numbered_texts s.toks (partsBetween a (occurrences a b 0 a.length (a.length + 1)) b.length))
      rw [List.length_map] at this
      rw [this]; exact hzs
    · have e : Txt.split a b = [a] := (if_neg (ne_true_of_eq_false h1)).trans (if_pos hf)
      rw [e] at q hzs
      exact call_meets F.slot_str_split (typeIs_str _ _ _) F.entry_str_split (F.args_str_split_2 _ _) (meets_str_split_not_found a b t t2 h1 hb hf) (split_new (l := [(a, t)]) I hzs q)
  · have e : Txt.split a b = [a] := if_pos h1
    rw [e] at q hzs
    exact call_meets F.slot_str_split (typeIs_str _ _ _) F.entry_str_split (F.args_str_split_2 _ _) (meets_str_split_cannot_occur a b t t2 h1) (split_new (l := [(a, t)]) I hzs q)
inductive rSPartP (x : V) (vs : List V) (H : Hp) (Q : VK) : Prop
  | mk (a b : Str) (p : Str × Str × Str) (h_0 : x = .str a) (h_1 : vs = [.str b]) (h_2 : (b.length == 0) = false) (h_3 : a.length ≤ sizeLine) (h_4 : Txt.partition a b = p) (h_5 : ∀ l, H l = none → Q (.ref l) (upd H l (.tup [.str p.1, .str p.2.1, .str p.2.2])))
noncomputable def rSPart : V → List V → Hp → VK → Prop := fun x vs H Q => rSPartP x vs H Q
theorem part_new {pins : List (Addr × Obj)} {σ : St} {H : Hp} {s : Shared} {Q : VK} {a b c : Str} {ta tb tc tk : Tok} (I : Inv X pins σ H s) (q : ∀ l, H l = none → Q (.ref l) (upd H l (.tup [.str a, .str b, .str c]))) :
    EP X pins σ Q (.ref s.heap.objs.size) { s with heap := s.heap.push { cls := .type "tuple", data := .seq [.str a ta, .str b tb, .str c tc].toArray }, toks := tk } := by
  refine ⟨.ref s.heap.objs.size, upd H s.heap.objs.size (.tup [.str a, .str b, .str c]), I.laid (t' := tk) (fun b u e => Heap.get?_push_of_some _ e) (Nat.le_refl _) ?_, rfl, q _ (I.hok.fresh (Nat.le_refl _))⟩
  exact ⟨by show 3 ≤ sizeLine; decide, _, .cons ⟨_, rfl⟩ (.cons ⟨_, rfl⟩ (.cons ⟨_, rfl⟩ .nil)), ⟨_, Heap.get?_push_size _ rfl, rfl, _, rfl⟩⟩
theorem mt_spart : MtM X "str.partition" rSPart := by
  intro pins s σ H x vs v us Q I rx rv h
  obtain ⟨a, b, p, rfl, rfl, hb, hz, hs, q⟩ := h
  obtain ⟨t, rfl⟩ := rx
  obtain ⟨u, rfl, ru⟩ := rv.one
  obtain ⟨t2, rfl⟩ := ru
  refine call_meets F.slot_str_partition (typeIs_str _ _ _) F.entry_str_partition (F.args_str_partition_2 _ _) (meets_str_partition a b t t2 hb hz) ?_
  subst hs
  unfold Txt.partition at q
  revert q
  cases occurrences a b 0 a.length 1 with
  | nil => intro q; exact part_new I q
  | cons i r => intro q; exact part_new I q
noncomputable def Its (x : Str) : It := ⟨fun i _ => i < x.cps.size, fun i H v H' => H' = H ∧ ∃ c, x.cps[i]? = some c ∧ v = .str ⟨#[c]⟩, fun i _ => x.cps.size ≤ i⟩
theorem turn_str {P : Program} {w : World} {K : PySem.W.Frag} {tg : Expr} {x : Str} {t : Tok} {n : String} (it : Addr) (hn : n = "str_ascii_iterator" ∨ n = "str_iterator") : Turn P w K tg (Its x) [it] it (fun i h => h.IsStrIter it n x t i) where
  mem := by simp
  obj := fun i h st b hb => by
    have e : b = it := by simpa using hb
    subst e
    obtain ⟨o, e, c, d⟩ := st
    exact ⟨o, e, fun v z => by rw [d] at z; cases z⟩
  keep := fun i h h' st k => by
    obtain ⟨o, e, r⟩ := st
    exact ⟨o, k it (by simp) o e, r⟩
  item := by
    intro X hP hw hK hc i pins s σ H E I hf st hg
    subst hP hw hK
    obtain ⟨f0, f1, f2, f3, f4, f5⟩ := hf it (by simp)
    have W : Walks X.prog X.w X.A it [it] [it] x.cps.size (SignAt x) (fun i h => h.IsStrIter it n x t i) := by
      rcases hn with rfl | rfl
      · exact Walks.strAscii (I.ok.hd hc) it x t
      · exact Walks.strWide (I.ok.hd hc) it x t
    refine W.item i s _ _ hg st fun v h' tk hv st' kk => ?_
    obtain ⟨c, t2, hc2, rfl⟩ := hv
    have I1 : Inv X pins σ H { s with heap := h', toks := tk } := I.turned (fun b o hb e => kk b o (by simpa using hb) e) f0 f1 f3 f4 f5
    obtain ⟨o, ho, oc, od⟩ := id st'
    refine ⟨_, rfl, go_of (s := { s with heap := h', toks := tk }) (n := n) ho oc od (by rcases hn with rfl | rfl <;> decide) ⟨.str ⟨#[c]⟩, H, I1, ⟨t2, rfl⟩, ⟨rfl, c, hc2, rfl⟩, st', fun b hb => (hf b hb).1⟩⟩
  done := by
    intro X hP hw hK hc i pins s σ H E I hf st hg
    subst hP hw hK
    obtain ⟨f0, f1, f2, f3, f4, f5⟩ := hf it (by simp)
    rcases hn with rfl | rfl
    · exact wpAny_pyNext_ascii_end (I.ok.hd hc) st (Array.getElem?_eq_none hg) fun h' eb => ⟨rfl, I.turned (t' := s.toks) (fun b o hb e => eb b o hb e) f0 f1 f3 f4 f5⟩
    · exact wpAny_pyNext_wide_end (I.ok.hd hc) st (Array.getElem?_eq_none hg) fun h' eb => ⟨rfl, I.turned (t' := s.toks) (fun b o hb e => eb b o hb e) f0 f1 f3 f4 f5⟩
  self := fun _ _ _ _ _ st h => by
    rcases hn with rfl | rfl
    · exact wpAny_pyIter_striter_ascii st h
    · exact wpAny_pyIter_striter_wide st h
inductive IStrP (v : V) (H1 : Hp) (R : It → Hp → Prop) : Prop
  | mk (x : Str) (h0 : v = .str x) (q : R (Its x) H1)
noncomputable def iStr (tl : TE) : TI := fun σ H R => tl σ H fun v H1 => IStrP v H1 R
theorem pi_str {tg l : Expr} {tl : TE} (hl : PE X l tl) : PI X tg l (iStr tl) := by
  intro pins s σ H R I h
  refine thn (hl pins s σ H _ I h) fun v s1 z_ => ?_
  obtain ⟨x, H1, I1, r1, q1⟩ := z_
  obtain ⟨y, e, q⟩ := q1
  subst e
  obtain ⟨t, rfl⟩ := r1
  have fin : ∀ (n : String) (o : Obj), (n = "str_ascii_iterator" ∨ n = "str_iterator") → (s1.heap.push o).IsStrIter s1.heap.objs.size n y t 0 → PIE X pins σ tg R (.ref s1.heap.objs.size) { s1 with heap := s1.heap.push o } := by
    intro n o hn st
    refine ⟨s1.heap.objs.size, [s1.heap.objs.size], _, _, H1, rfl, I1.kept (t' := s1.toks) fun b o e => Heap.get?_push_of_some _ e, turn_str (x := y) (t := t) (n := n) _ hn, st, fun b hb => ?_, q⟩
    have e : b = s1.heap.objs.size := by simpa using hb
    subst e
    exact I1.fpOk (Nat.le_refl _) (I1.hok.fresh (Nat.le_refl _))
  cases ha : y.cps.all (· < 128)
  · exact wpAny_pyIter_wide ha (fin _ _ (.inr rfl) ⟨_, Heap.get?_push_size _ rfl, rfl, rfl⟩)
  · exact wpAny_pyIter_ascii ha (fin _ _ (.inl rfl) ⟨_, Heap.get?_push_size _ rfl, rfl, rfl⟩)
theorem lc_str {x : Str} {g : TG} {tt : TT} {te : TE} {σ0 : St} {H : Hp} {D : Addr} {Qd : Hp → Prop} (Pv : Nat → St → List V → Hp → Prop) (h0 : Pv 0 σ0 [] (upd H D (.lst [])))
    (hs : ∀ i c σ ys H2, x.cps[i]? = some c → Pv i σ ys H2 → g (.str ⟨#[c]⟩) σ H2 fun σ4 H4 => tt σ4 H4 fun b H5 =>
      if b = true then te σ4 H5 fun y H6 => H6 D = some (.lst ys) ∧ ys.length < sizeLine ∧ Pv (i + 1) σ4 (ys ++ [y]) (upd H6 D (.lst (ys ++ [y])))
      else Pv (i + 1) σ4 ys H5)
    (hd : ∀ σ ys H, Pv x.cps.size σ ys H → Qd H) :
    ∃ W : Nat → Nat → St → List V → Hp → Prop, (∃ m, W 0 m σ0 [] (upd H D (.lst []))) ∧ ∀ i m σ' ys H2, W i m σ' ys H2 →
    ((Its x).stop i H2 ∧ Qd H2) ∨ ((Its x).go i H2 ∧ ∃ N : St → List V → Hp → Prop, (∀ σ ys H, N σ ys H → ∃ m', m' < m ∧ W (i + 1) m' σ ys H) ∧ ∀ v H3, (Its x).yld i H2 v H3 → g v σ' H3 fun σ4 H4 => tt σ4 H4 fun b H5 =>
      if b = true then te σ4 H5 fun y H6 => H6 D = some (.lst ys) ∧ ys.length < sizeLine ∧ N σ4 (ys ++ [y]) (upd H6 D (.lst (ys ++ [y])))
      else N σ4 ys H5) := by
  refine ⟨fun i m σ ys H => m = x.cps.size - i ∧ i ≤ x.cps.size ∧ Pv i σ ys H, ⟨x.cps.size, by simp, Nat.zero_le _, h0⟩, ?_⟩
  rintro i m σ ys H2 ⟨rfl, hi, p⟩
  by_cases hlt : i < x.cps.size
  · refine .inr ⟨hlt, Pv (i + 1), fun σ' ys' H' p' => ⟨x.cps.size - (i + 1), by lia, rfl, hlt, p'⟩, fun v H3 y => ?_⟩
    obtain ⟨e, c, hc, y⟩ := y
    subst e y
    exact hs i c σ ys _ hc p
  · have e : i = x.cps.size := by lia
    subst e
    exact .inl ⟨Nat.le_refl _, hd σ ys H2 p⟩
noncomputable def dropS (x : Str) (k : Nat) : Str := ⟨(x.cps.toList.drop k).toArray⟩
inductive rSlSP (x : V) (lo hi : Option Int) (H : Hp) (Q : VK) : Prop
  | mk (a : Str) (k : Nat) (h_0 : x = .str a) (h_1 : lo = some ((k : Nat) : Int)) (h_2 : hi = none) (h_3 : k ≤ a.length) (h_4 : a.length ≤ sizeLine) (h_5 : Q (.str (dropS a k)) H)
noncomputable def rSlS : V → Option Int → Option Int → Hp → VK → Prop := fun x lo hi H Q => rSlSP x lo hi H Q
theorem dropS_len (x : Str) (k : Nat) : (dropS x k).length = x.length - k := by
  show (x.cps.toList.drop k).toArray.size = x.cps.size - k
  simp
theorem sl_str : SlR X rSlS := by
  intro pins s σ H x v vl vu lo hi sl Q I rx hs pl pu h
  obtain ⟨a, k, rfl, rfl, rfl, hk, hz, q⟩ := h
  obtain ⟨t, rfl⟩ := rx
  cases pl with
  | int i t2 =>
  cases pu
  refine ⟨"str", _, F.slot_str_getitem.lookup, typeIs_str _ _ _, ?_⟩
  refine wpAny_getItem_str_slice (l := some (((k : Nat) : Int), t2)) (u := none) (st := none) hs rfl ?_
  have e0 : slicePicked a (some (((k : Nat) : Int), t2)) none none = strSliceIndices (some ((k : Nat) : Int)) (some ((a.length : Nat) : Int)) 1 a.length := by
    show strSliceIndices (some ((k : Nat) : Int)) none 1 a.length = _
    have h2 : ¬ (((a.length : Nat) : Int) < 0) := by lia
    have e2 : max (0 : Int) (min ((a.length : Nat) : Int) ((a.length : Nat) : Int)) = ((a.length : Nat) : Int) := by lia
    simp only [strSliceIndices, h2, if_false, e2, show ((1 : Int) > 0) = True from by simp, if_true]
  have e1 := StrLaws.sliced_plain a (a := k) (b := a.length) hk (Nat.le_refl _)
  rw [List.take_of_length_le (by rw [List.length_drop]; exact Nat.le_refl _)] at e1
  unfold sliceMade
  rw [e0, StrLaws.strSliceIndices_plain hk (Nat.le_refl _)] 
  rw [StrLaws.strSliceIndices_plain hk (Nat.le_refl _)] at e1
  rw [e1]
  have q' : ∀ tk t', EP X pins σ Q (.str (dropS a k) t') { s with toks := tk } := fun tk t' => ⟨.str (dropS a k), H, I.tok _, ⟨_, rfl⟩, q⟩
  split
  · rename_i hc
    have hk0 : k = 0 := by
      have := (Bool.and_eq_true _ _ ▸ hc).2
      simp at this
      lia
    subst hk0
    have ea : dropS a 0 = a := by
      unfold dropS
      rw [List.drop_zero, Array.toArray_toList]
    rw [ea] at q'
    exact q' s.toks t
  · refine ⟨?_, q' _ _⟩
    have := dropS_len a k
    show (dropS a k).length ≤ sizeLine
    lia
end
end L2

set_option Elab.async false
set_option linter.all false
set_option maxRecDepth 100000
set_option maxHeartbeats 2000000
namespace L2
open PySem PySem.Spec PyProof.Rows PySem.Builtin
noncomputable def numOf (cs : List Nat) : Nat := cs.foldl (fun a c => a * 10 + (c - 48)) 0
noncomputable def Figs (cs : List Nat) : Prop := cs ≠ [] ∧ cs.length ≤ 600 ∧ ∀ c ∈ cs, 48 ≤ c ∧ c ≤ 57
theorem foldlM_figs {f : Array Nat × Bool → Nat → Option (Array Nat × Bool)} (hf : ∀ ds b c, 48 ≤ c → c ≤ 57 → f (ds, b) c = some (ds.push (c - 48), true)) : ∀ (cs : List Nat) (ds : Array Nat) (b : Bool), (∀ c ∈ cs, 48 ≤ c ∧ c ≤ 57) →
    cs.foldlM f (ds, b) = some (ds ++ (cs.map (· - 48)).toArray, b || !cs.isEmpty)
  | [], ds, b, _ => by simp
  | c :: cs, ds, b, h => by
    rw [List.foldlM_cons, hf ds b c (h c (List.mem_cons_self ..)).1 (h c (List.mem_cons_self ..)).2]
    show cs.foldlM f (ds.push (c - 48), true) = _
    rw [foldlM_figs hf cs _ _ fun x hx => h x (List.mem_cons_of_mem _ hx)]
    simp
theorem dropWhile_no {p : Nat → Bool} {l : List Nat} (h : ∀ c ∈ l, p c = false) : l.dropWhile p = l := by
  cases l with
  | nil => rfl
  | cons c l => rw [List.dropWhile_cons, h c (List.mem_cons_self ..)]; rfl
theorem takeWhile_all {p : Nat → Bool} {l : List Nat} (h : ∀ c ∈ l, p c = true) : l.takeWhile p = l := by
  induction l with
  | nil => rfl
  | cons c l ih => rw [List.takeWhile_cons, h c (List.mem_cons_self ..), if_pos rfl, ih fun x hx => h x (List.mem_cons_of_mem _ hx)]
theorem noInt : typeLookup (.type "str") "__int__" = pure none := by rw [typeLookup_type, builtinLookup_eq_fast]; kernel_rfl
theorem noIndex : typeLookup (.type "str") "__index__" = pure none := by rw [typeLookup_type, builtinLookup_eq_fast]; kernel_rfl
theorem noTrunc : typeLookup (.type "str") "__trunc__" = pure none := by rw [typeLookup_type, builtinLookup_eq_fast]; kernel_rfl
local macro_rules | `(tactic| walk_at "cw blank") => do { let n := fun (x : Lean.Name) => Lean.mkIdent (Lean.mkPrivateNameCore `PySem.Builtin.Int.W0All x); `(tactic| have $(Lean.mkIdent `bl):ident : ∀ c, 48 ≤ c → c ≤ 57 → $(n `PySem.Builtin.isBlank) c = false := ?_) }
local macro_rules | `(tactic| walk_at "cw digit") => do { let n := fun (x : Lean.Name) => Lean.mkIdent (Lean.mkPrivateNameCore `PySem.Builtin.Int.W0All x); `(tactic| have $(Lean.mkIdent `dg):ident : ∀ c, 48 ≤ c → c ≤ 57 → $(n `PySem.Builtin.digitValue?) c = some (c - 48) := ?_) }
local macro_rules | `(tactic| walk_at "cw digits") => do { let n := fun (x : Lean.Name) => Lean.mkIdent (Lean.mkPrivateNameCore `PySem.Builtin.Int.W0All x); `(tactic| have $(Lean.mkIdent `nd):ident : ∀ cs, Figs cs → $(n `PySem.Builtin.numeralDigits?) 10 cs = some (cs.map (· - 48)).toArray := ?_) }
local macro_rules | `(tactic| walk_at "cw prefix") => do { let n := fun (x : Lean.Name) => Lean.mkIdent (Lean.mkPrivateNameCore `PySem.Builtin.Int.W0All x); `(tactic| have $(Lean.mkIdent `pf):ident : ∀ cs, Figs cs → $(n `PySem.Builtin.prefixBase?) cs = none := ?_) }
local macro_rules | `(tactic| walk_at "cw read") => do { let n := fun (x : Lean.Name) => Lean.mkIdent (Lean.mkPrivateNameCore `PySem.Builtin.Int.W0All x); `(tactic| have $(Lean.mkIdent `rn):ident : ∀ cs, Figs cs → $(n `PySem.Builtin.readNumeral) 0 10 cs = $(n `PySem.Builtin.Numeral.value) ((numOf cs : Nat) : Int) := ?_) }
local macro_rules | `(tactic| walk_at "cw unfold") => do { let n := fun (x : Lean.Name) => Lean.mkIdent (Lean.mkPrivateNameCore `PySem.Builtin.Int.W0All x); `(tactic| first | unfold $(n `PySem.Builtin.readNumeral):ident | unfold $(n `PySem.Builtin.prefixBase?):ident | unfold $(n `PySem.Builtin.numeralDigits?):ident | unfold $(n `PySem.Builtin.digitValue?):ident | unfold $(n `PySem.Builtin.isBlank):ident) }
theorem meets_int_new_str (x : Str) (u : Tok) (h : Figs x.cps.toList) : Meets (Builtin.«int.__new__» ⟨[.type "int", .str x u], []⟩) (Made.int (numOf x.cps.toList : Nat)).spec :=
  Meets.of_wp fun prog w A R s hs => by
    walk_at "cw blank"
    rotate_left
    · intro c h1 h2
      walk_at "cw unfold"
      have e1 : (c == 32) = false := by simp; lia
      have e2 : (decide (c ≤ 13)) = false := by simp; lia
      rw [e1, e2]; simp
    walk_at "cw digit"
    rotate_left
    · intro c h1 h2
      walk_at "cw unfold"
      rw [if_pos (by simp; exact ⟨h1, h2⟩)]
    walk_at "cw digits"
    rotate_left
    · intro cs hcs
      walk_at "cw unfold"
      rw [foldlM_figs (fun ds b c h1 h2 => by
        have e : (c == 95) = false := by simp; lia
        have e2 : c - 48 < 10 := by lia
        dsimp only
        rw [e, dg c h1 h2]
        simp [e2]) cs _ _ hcs.2.2]
      have : cs.isEmpty = false := by cases cs with
        | nil => exact absurd rfl hcs.1
        | cons _ _ => rfl
      simp [this]
    walk_at "cw prefix"
    rotate_left
    · intro cs hcs
      walk_at "cw unfold"
      split
      · rename_i c r
        have := hcs.2.2 c (by simp)
        have e1 : (c == 120) = false := by simp; lia
        have e2 : (c == 88) = false := by simp; lia
        have e3 : (c == 111) = false := by simp; lia
        have e4 : (c == 79) = false := by simp; lia
        have e5 : (c == 98) = false := by simp; lia
        have e6 : (c == 66) = false := by simp; lia
        simp [e1, e2, e3, e4, e5, e6]
      · rfl
    walk_at "cw read"
    rotate_left
    · intro cs hcs
      walk_at "cw unfold"
      have b1 : ∀ c ∈ cs, _ := fun c hc => bl c (hcs.2.2 c hc).1 (hcs.2.2 c hc).2
      rw [dropWhile_no b1]
      obtain ⟨c, r, rfl⟩ := List.exists_cons_of_ne_nil hcs.1
      have hc := hcs.2.2 c (List.mem_cons_self ..)
      have hsz : ¬ ((c :: r).map (· - 48)).toArray.size > 6000 := by
        have := hcs.2.1
        rw [List.size_toArray, List.length_map]
        lia
      have hrv := dropWhile_no fun x hx => b1 x (List.mem_reverse.mp hx)
      have hcc : c = 48 ∨ c = 49 ∨ c = 50 ∨ c = 51 ∨ c = 52 ∨ c = 53 ∨ c = 54 ∨ c = 55 ∨ c = 56 ∨ c = 57 := by lia
      have p1 := pf _ hcs
      have p2 := nd _ hcs
      have p3 : ((c :: r).map (· - 48)).toArray.foldl (fun acc d => acc * 10 + d) 0 = numOf (c :: r) := by
        unfold numOf
        rw [List.foldl_toArray, List.foldl_map]
      rcases hcc with rfl | rfl | rfl | rfl | rfl | rfl | rfl | rfl | rfl | rfl
      all_goals
        simp [p1]
        rw [← List.reverse_cons, hrv, List.reverse_reverse, p2]
        dsimp only
        rw [if_neg hsz, p3]
    obtain ⟨hp, g, d, tk, os⟩ := s
    have f1 := F.conv_sub_int
    have f2 := F.madeHere_int
    have hT : (⟨hp, g, d, tk, os⟩ : Shared).TypeIs (.str x u) "str" := rfl
    have f3 := noInt
    have f4 := noIndex
    have f5 := noTrunc
    have e1 : (x.cps.all fun c => decide (c < 128)) = true := by
      rw [← Array.all_toList, List.all_eq_true]
      intro c hc
      have := h.2.2 c hc
      simp
      lia
    have e2 : x.cps.toList.takeWhile (fun c => c != 0) = x.cps.toList := takeWhile_all fun c hc => by
      have := h.2.2 c hc
      simp
      lia
    have r1 := rn _ h
    have hl : x.cps.toList.length ≤ 640 := by have := h.2.1; lia
    repeat (any_goals (first | assumption | wp_step))
    rw [e1, if_pos rfl, e2, if_pos hl]
    refine wpAny_bind (wpAny_pure ?_)
    dsimp only
    rw [r1]
    dsimp only
    rw [if_pos (by simp)]
    repeat (any_goals (first | assumption | wp_step))
    all_goals first | exact ⟨_, rfl, hs⟩ | skip
theorem call_int_str {prog : Program} {w : World} {A : Around} {E : Value → Shared → Prop} {s : Shared} {x : Str} {u : Tok} {Q : Value → Shared → Prop} (hx : Figs x.cps.toList) (h : Q (.int (numOf x.cps.toList : Nat) s.toks) { s with toks := s.toks + 1 }) : wpAny (model prog w) A (call (.type "int") [.str x u]) Q E s :=
  call_int_1 (meets_int_new_str x u hx) (show (Made.int (numOf x.cps.toList : Nat)).post _ s from ⟨rfl, h⟩)
inductive rIntSP (xs : List V) (H : Hp) (Q : VK) : Prop
  | mk (x : Str) (h_0 : xs = [.str x]) (h_1 : Figs x.cps.toList) (h_2 : Q (.int (numOf x.cps.toList : Nat)) H)
noncomputable def rIntS : List V → Hp → VK → Prop := fun xs H Q => rIntSP xs H Q
theorem call_intS {X : Cx} : CallR X (.type "int") rIntS := by
  intro pins s σ H xs us Q I r h
  obtain ⟨x, rfl, hx, q⟩ := h
  obtain ⟨u, rfl, ru⟩ := vals1 r
  obtain ⟨t, rfl⟩ := ru
  exact call_int_str hx ⟨.int (numOf x.cps.toList : Nat), H, I.tok _, ⟨_, rfl⟩, q⟩
noncomputable def dObj (w : World) (a b c d : Str) (t1 t2 t3 t4 : Tok) (ep : Nat) : Obj :=
  ⟨.type "dict", none, .dict (List.toArray [⟨PyData.keyHash w.params a, .str a t1, .str b t2⟩, ⟨PyData.keyHash w.params c, .str c t3, .str d t4⟩]) ep, #[]⟩
structure KD (K : PySem.W.Frag) (w : World) (p : Addr) (a b c d : Str) : Prop where
  ne : a ≠ c
  sm : (p == sysModules) = false
  at_ : ∃ t1 t2 t3 t4 ep, K.lookup p = some (dObj w a b c d t1 t2 t3 t4 ep)
section
variable {X : Cx} {pins : List (Addr × Obj)} {σ : St} {H : Hp} {s : Shared} {p : Addr} {a b c d : Str}
theorem KD.dict (k : KD X.K X.w p a b c d) (I : Inv X pins σ H s) : ∃ t2 t4, s.heap.DictOf (mixKind X.prog X.w) p [(Sum.inr a, .str b t2), (Sum.inr c, .str d t4)] := by
  obtain ⟨t1, t2, t3, t4, ep, e⟩ := k.at_
  refine ⟨t2, t4, _, _, _, I.kIn _ _ e, ?_, rfl, ?_, ?_, ?_⟩
  · exact ⟨rfl, rfl, rfl⟩
  · intro x hx
    have hx : x ∈ [(⟨PyData.keyHash X.w.params a, .str a t1, .str b t2⟩ : DictEntry), ⟨PyData.keyHash X.w.params c, .str c t3, .str d t4⟩] := by simpa using hx
    rcases List.mem_cons.mp hx with rfl | hx
    · exact ⟨Sum.inr a, keyIs_str a t1, rfl⟩
    · rw [List.mem_singleton.mp hx]
      exact ⟨Sum.inr c, keyIs_str c t3, rfl⟩
  · exact .cons (keyIs_str a t1) rfl (.cons (keyIs_str c t3) rfl .nil)
  · refine List.nodup_cons.mpr ⟨fun z => ?_, List.nodup_cons.mpr ⟨fun z => (nomatch z), List.nodup_nil⟩⟩
    have := List.mem_singleton.mp z
    injection this with this
    exact k.ne this
noncomputable def kdv (a b c d : Str) (x : Str) : Option Str := if x = a then some b else if x = c then some d else none
inductive KGetP (a b c d : Str) (y : V) (H1 : Hp) (Q : VK) : Prop
  | mk (x v : Str) (h0 : y = .str x) (h1 : kdv a b c d x = some v) (q : Q (.str v) H1)
noncomputable def tKGet (a b c d : Str) (ty : TE) : TE := fun σ H Q => ty σ H fun y H1 => KGetP a b c d y H1 Q
theorem kdv_at {x v : Str} {t2 t4 : Tok} (h : kdv a b c d x = some v) : ∃ t, valueAt [((Sum.inr a : Key), Value.str b t2), (Sum.inr c, .str d t4)] (Sum.inr x) = some (.str v t) := by
  unfold kdv at h
  unfold valueAt
  by_cases e1 : x = a
  · subst e1
    rw [if_pos rfl] at h
    cases h
    exact ⟨t2, by simp⟩
  · rw [if_neg e1] at h
    by_cases e2 : x = c
    · subst e2
      rw [if_pos rfl] at h
      cases h
      refine ⟨t4, ?_⟩
      have : ¬ (Sum.inr a : Key) = Sum.inr x := fun z => e1 (Sum.inr.inj z).symm
      simp [this]
    · rw [if_neg e2] at h; cases h
theorem kdv_is {x : Str} {t2 t4 : Tok} : (valueAt [((Sum.inr a : Key), Value.str b t2), (Sum.inr c, .str d t4)] (Sum.inr x)).isSome = (kdv a b c d x).isSome := by
  unfold kdv valueAt
  by_cases e1 : x = a
  · subst e1; simp
  · have h1 : ¬ (Sum.inr a : Key) = Sum.inr x := fun z => e1 (Sum.inr.inj z).symm
    rw [if_neg e1]
    by_cases e2 : x = c
    · subst e2; simp [h1]
    · have h2 : ¬ (Sum.inr c : Key) = Sum.inr x := fun z => e2 (Sum.inr.inj z).symm
      rw [if_neg e2]
      simp [h1, h2]
theorem pe_kget {i : Expr} {ty : TE} {n : Str} {np pos : Pos} (k : KD X.K X.w p a b c d) (hg : Gl X n) (hm : X.mg n = some (.ref p)) (hi : PE X i ty) (hs : NoSl i) (hdb : (n == ("__debug__" : Str)) = false := by decide) : PE X (.Subscript (.Name n np) i pos) (tKGet a b c d ty) := by
  intro pins s σ H Q I h
  refine subD_of PySem.F.slot_dict_getitem.lookup hs (ld_glob I hg hm ?_ hdb)
  refine thn (hi pins s σ H _ I h) fun iv s2 z_ => ?_
  obtain ⟨y, H2, I2, ry, x, v, rfl, hv, q⟩ := z_
  obtain ⟨tx, rfl⟩ := ry
  obtain ⟨t2, t4, dd⟩ := k.dict I2
  obtain ⟨t, ht⟩ := kdv_at (t2 := t2) (t4 := t4) hv
  exact ⟨dd.typeIs, wpAny_getItem_of (mixKind_str X.prog X.w x tx) dd.mapOf ht ⟨.str v, H2, I2.tok _, ⟨_, rfl⟩, q⟩⟩
inductive KInP (a b c d : Str) (y : V) (H1 : Hp) (Q : VK) : Prop
  | mk (x : Str) (h0 : y = .str x) (q : Q (.bl (!(kdv a b c d x).isSome)) H1)
noncomputable def tKNotIn (a b c d : Str) (ty : TE) : TE := fun σ H Q => ty σ H fun y H1 => KInP a b c d y H1 Q
theorem pc_knotin {i : Expr} {ty : TE} {n : Str} {np : Pos} (k : KD X.K X.w p a b c d) (hg : Gl X n) (hm : X.mg n = some (.ref p)) (hi : PE X i ty) (hdb : (n == ("__debug__" : Str)) = false := by decide) : PC X .NotIn i (.Name n np) (tKNotIn a b c d ty) := by
  intro pins s σ H Q I h
  refine thn (hi pins s σ H _ I h) fun iv s1 z_ => ?_
  obtain ⟨y, H2, I2, ry, x, rfl, q⟩ := z_
  obtain ⟨tx, rfl⟩ := ry
  refine ld_glob I2 hg hm ?_ hdb
  obtain ⟨t2, t4, dd⟩ := k.dict I2
  refine wpAny_notIn_of (mixKind_str X.prog X.w x tx) k.sm dd.mapOf ?_
  rw [kdv_is]
  exact ⟨.bl _, H2, I2.tok _, rfl, q⟩
end
end L2

set_option Elab.async false
set_option linter.all false
set_option maxRecDepth 100000
set_option maxHeartbeats 2000000
namespace L2
open PySem PySem.Spec PyProof.Rows
inductive rInSP (x y : V) (H : Hp) (Q : VK) : Prop
  | mk (i j : Str) (h_0 : x = .str i) (h_1 : y = .str j) (h_2 : Q (.bl (!(Builtin.Str.occurrences j i 0 j.length 1).isEmpty)) H)
noncomputable def rInS : R2 := fun x y H Q => rInSP x y H Q
theorem op_inS {X : Cx} : OpR X (compareOp .In) rInS := by
  intro pins s σ H x y v u Q I rx ry h
  obtain ⟨i, j, e1, e2, q⟩ := h
  exact op_in_str pins s σ H x y v u Q I rx ry ⟨i, j, e1, e2, q⟩
end L2
namespace Cw
open PySem L2
noncomputable abbrev cl (x : Str) : List Nat := x.cps.toList
theorem cl_ext {x y : Str} (h : cl x = cl y) : x = y := by
  obtain ⟨⟨a⟩⟩ := x
  obtain ⟨⟨b⟩⟩ := y
  have h : a = b := h
  rw [h]
theorem cl_app (x y : Str) : cl (x ++ y) = cl x ++ cl y := by
  show (x.cps ++ y.cps).toList = _
  rw [Array.toList_append]
theorem cl_len (x : Str) : (cl x).length = x.length := by
  show x.cps.toList.length = x.cps.size
  rw [Array.length_toList]
theorem cl_of (s : String) : cl (Str.ofString s) = s.toList.map Char.toNat := by
  rw [Str.ofString_eq_toList]
noncomputable def num (i : Int) : Str := Str.ofString (toString i)
theorem cl_num (n : Nat) : cl (num ((n : Nat) : Int)) = (Nat.toDigits 10 n).map Char.toNat := by
  unfold num
  rw [cl_of]
  show (Nat.repr n).toList.map Char.toNat = _
  rw [Nat.toList_repr]
theorem cl_neg {i : Int} (h : i < 0) : cl (num i) = 45 :: cl (num (((-i).toNat : Nat) : Int)) := by
  cases i with
  | ofNat n => exact absurd h (by show ¬ (Int.ofNat n < 0); have := Int.natCast_nonneg n; exact Int.not_lt.mpr this)
  | negSucc m =>
    rw [show (-(Int.negSucc m)).toNat = m + 1 from rfl, cl_num]
    unfold num
    rw [cl_of]
    show ("-" ++ Nat.repr (m + 1)).toList.map Char.toNat = _
    rw [String.toList_append, List.map_append, Nat.toList_repr]
    rfl
theorem digit_codes {n : Nat} {c : Nat} (h : c ∈ cl (num ((n : Nat) : Int))) : 48 ≤ c ∧ c ≤ 57 := by
  rw [cl_num] at h
  obtain ⟨ch, hc, rfl⟩ := List.mem_map.mp h
  have hd := Nat.isDigit_of_mem_toDigits (b := 10) (by decide) (by decide) hc
  unfold Char.isDigit at hd
  simp only [Bool.and_eq_true, decide_eq_true_eq, ge_iff_le] at hd
  exact ⟨hd.1, hd.2⟩
theorem num_len {n k : Nat} (hk : 0 < k) (h : n < 10 ^ k) : (num ((n : Nat) : Int)).length ≤ k := by
  rw [← cl_len, cl_num, List.length_map]
  exact (Nat.length_toDigits_le_iff (by decide) hk).mpr h
theorem num_pos (n : Nat) : 0 < (num ((n : Nat) : Int)).length := by
  rw [← cl_len, cl_num, List.length_map]
  exact Nat.length_toDigits_pos
theorem figs_num {n : Nat} (h : n < 10 ^ 10) : Figs (cl (num ((n : Nat) : Int))) := by
  refine ⟨fun z => ?_, ?_, fun c hc => digit_codes hc⟩
  · have := num_pos n
    rw [← cl_len, z] at this
    exact absurd this (by decide)
  · have := num_len (k := 10) (by decide) h
    rw [cl_len]
    lia
theorem numOf_num (n : Nat) : numOf (cl (num ((n : Nat) : Int))) = n := by
  rw [cl_num]
  unfold numOf
  rw [List.foldl_map]
  have e : (Nat.toDigits 10 n).foldl (fun (a : Nat) (c : Char) => a * 10 + (c.toNat - 48)) 0 = Nat.ofDigitChars 10 (Nat.toDigits 10 n) 0 := by
    unfold Nat.ofDigitChars
    congr 1
    funext a c
    rw [Nat.mul_comm]
    rfl
  rw [e, Nat.ofDigitChars_ten_toDigits]
theorem digits_head (k : Nat) : ∀ n : Nat, n < k → 0 < n → ∃ c r, Nat.toDigits 10 n = c :: r ∧ c ≠ '0' := by
  induction k with
  | zero => intro n h; exact absurd h (Nat.not_lt_zero _)
  | succ k ih =>
    intro n hn h0
    rw [Nat.toDigits_eq_if (by decide)]
    by_cases hlt : n < 10
    · rw [if_pos hlt]
      refine ⟨_, _, rfl, ?_⟩
      have : n = 1 ∨ n = 2 ∨ n = 3 ∨ n = 4 ∨ n = 5 ∨ n = 6 ∨ n = 7 ∨ n = 8 ∨ n = 9 := by lia
      rcases this with rfl | rfl | rfl | rfl | rfl | rfl | rfl | rfl | rfl <;> decide
    · rw [if_neg hlt]
      obtain ⟨c, r, e, hc⟩ := ih (n / 10) (by lia) (by lia)
      exact ⟨c, _, by rw [e, List.cons_append], hc⟩
theorem num_head {n : Nat} (h : 0 < n) : ∃ c r, cl (num ((n : Nat) : Int)) = c :: r ∧ c ≠ 48 := by
  obtain ⟨c, r, e, hc⟩ := digits_head (n + 1) n (Nat.lt_succ_self _) h
  refine ⟨c.toNat, r.map Char.toNat, by rw [cl_num, e, List.map_cons], fun z => hc ?_⟩
  exact Char.toNat_inj.mp z
theorem num_sign {i : Int} {c : Nat} (h : c ∈ cl (num i)) : c = 45 ∨ (48 ≤ c ∧ c ≤ 57) := by
  by_cases hi : i < 0
  · rw [cl_neg hi] at h
    rcases List.mem_cons.mp h with e | h
    · exact .inl e
    · exact .inr (digit_codes h)
  · obtain ⟨n, rfl⟩ : ∃ n : Nat, i = ((n : Nat) : Int) := ⟨i.toNat, by lia⟩
    exact .inr (digit_codes h)
theorem num_short {i : Int} (h1 : -1000000000 ≤ i) (h2 : i ≤ 1000000000) : (num i).length ≤ 20 := by
  by_cases hi : i < 0
  · rw [← cl_len, cl_neg hi, List.length_cons, cl_len]
    have := num_len (n := (-i).toNat) (k := 10) (by decide) (by have : (10 : Nat) ^ 10 = 10000000000 := (by decide); lia)
    lia
  · obtain ⟨n, rfl⟩ : ∃ n : Nat, i = ((n : Nat) : Int) := ⟨i.toNat, by lia⟩
    have := num_len (n := n) (k := 10) (by decide) (by have : (10 : Nat) ^ 10 = 10000000000 := (by decide); lia)
    lia
noncomputable def one (c : Nat) : Str := ⟨#[c]⟩
theorem app_uniq {c : Nat} : ∀ {a b r s : List Nat}, c ∉ a → c ∉ b → a ++ c :: r = b ++ c :: s → a = b ∧ r = s
  | [], [], _, _, _, _, h => ⟨rfl, by injection h⟩
  | [], y :: b, _, _, _, hb, h => by
    rw [List.nil_append, List.cons_append] at h
    injection h with h1 h2
    exact absurd (by rw [h1]; exact List.mem_cons_self ..) hb
  | x :: a, [], _, _, ha, _, h => by
    rw [List.nil_append, List.cons_append] at h
    injection h with h1 h2
    exact absurd (by rw [← h1]; exact List.mem_cons_self ..) ha
  | x :: a, y :: b, _, _, ha, hb, h => by
    rw [List.cons_append, List.cons_append] at h
    injection h with h1 h2
    obtain ⟨e1, e2⟩ := app_uniq (fun z => ha (List.mem_cons_of_mem _ z)) (fun z => hb (List.mem_cons_of_mem _ z)) h2
    exact ⟨by rw [h1, e1], e2⟩
theorem cl_join2 (c : Nat) (p q : Str) (ps : List Str) : cl (Str.join (one c) (p :: q :: ps)) = cl p ++ c :: cl (Str.join (one c) (q :: ps)) := by
  show cl (p ++ one c ++ Str.join (one c) (q :: ps)) = _
  rw [cl_app, cl_app, List.append_assoc]
  rfl
theorem join_inj (c : Nat) : ∀ (ps qs : List Str), ps ≠ [] → qs ≠ [] → (∀ p ∈ ps, c ∉ cl p) → (∀ p ∈ qs, c ∉ cl p) → Str.join (one c) ps = Str.join (one c) qs → ps = qs
  | [], _, h, _, _, _, _ => absurd rfl h
  | _ :: _, [], _, h, _, _, _ => absurd rfl h
  | [p], [q], _, _, _, _, h => by
    have h : p = q := h
    rw [h]
  | [p], q :: q2 :: qs, _, _, hp, _, h => by
    have h : p = Str.join (one c) (q :: q2 :: qs) := h
    refine absurd ?_ (hp p (List.mem_cons_self ..))
    rw [h, cl_join2]
    simp
  | p :: p2 :: ps, [q], _, _, _, hq, h => by
    have h : Str.join (one c) (p :: p2 :: ps) = q := h
    refine absurd ?_ (hq q (List.mem_cons_self ..))
    rw [← h, cl_join2]
    simp
  | p :: p2 :: ps, q :: q2 :: qs, _, _, hp, hq, h => by
    have h := congrArg cl h
    rw [cl_join2, cl_join2] at h
    obtain ⟨e1, e2⟩ := app_uniq (hp p (List.mem_cons_self ..)) (hq q (List.mem_cons_self ..)) h
    rw [cl_ext e1, join_inj c (p2 :: ps) (q2 :: qs) (by simp) (by simp) (fun x hx => hp x (List.mem_cons_of_mem _ hx)) (fun x hx => hq x (List.mem_cons_of_mem _ hx)) (cl_ext e2)]
theorem split_ne (x y : Str) : Txt.split x y ≠ [] := by
  unfold Txt.split
  split
  · simp
  · split
    · simp
    · rw [StrLaws.partsBetween_eq]
      obtain ⟨p, r, e⟩ := StrLaws.partsFrom_ne x y.length 0 (Builtin.Str.occurrences x y 0 x.length (x.length + 1))
      rw [e]
      simp
theorem split_join {c : Nat} {ps : List Str} (hne : ps ≠ []) (hf : ∀ p ∈ ps, c ∉ cl p) : Txt.split (Str.join (one c) ps) (one c) = ps :=
  join_inj c _ _ (split_ne _ _) hne (StrLaws.split_free _ c) hf (StrLaws.join_split _ _)
theorem cl_sub (x : Str) (i j : Nat) : cl (Builtin.Str.strSub x i j) = ((cl x).drop i).take (j - i) := by
  show (x.cps.extract i j).toList = _
  rw [Array.toList_extract, List.extract_eq_take_drop]
theorem partition_at {c : Nat} {a b : Str} (h : c ∉ cl a) : Txt.partition (a ++ one c ++ b) (one c) = (a, one c, b) := by
  have e : cl (a ++ one c ++ b) = cl a ++ c :: cl b := by rw [cl_app, cl_app, List.append_assoc]; rfl
  have hl := cl_len (a ++ one c ++ b)
  unfold Txt.partition
  rcases StrLaws.occ_head (a ++ one c ++ b) (one c) 1 (Nat.le_refl _) with ⟨_, hn⟩ | ⟨i, r, ho, hA, hm⟩
  · exact absurd ((StrLaws.subAt_one _ c (cl a).length).mpr (by rw [show (a ++ one c ++ b).cps.toList = cl a ++ c :: cl b from e]; simp)) (hn _)
  · have hi : i = (cl a).length := by
      have h1 := (StrLaws.subAt_one _ c i).mp hA
      rw [show (a ++ one c ++ b).cps.toList = cl a ++ c :: cl b from e] at h1
      by_cases q : i < (cl a).length
      · rw [List.getElem?_append_left q] at h1
        exact absurd (List.mem_of_getElem? h1) h
      · by_cases q2 : (cl a).length < i
        · exact absurd ((StrLaws.subAt_one _ c (cl a).length).mpr (by rw [show (a ++ one c ++ b).cps.toList = cl a ++ c :: cl b from e]; simp)) (hm _ q2)
        · lia
    rw [ho]
    dsimp only
    have e1 : Builtin.Str.strSub (a ++ one c ++ b) 0 i = a := cl_ext (by rw [cl_sub, e, hi]; simp)
    have e2 : Builtin.Str.strSub (a ++ one c ++ b) (i + (one c).length) (a ++ one c ++ b).length = b := cl_ext (by
      rw [cl_sub, ← hl, e, hi]
      have e3 : (cl a ++ c :: cl b).drop ((cl a).length + 1) = cl b := by simp [List.drop_append]
      show ((cl a ++ c :: cl b).drop ((cl a).length + 1)).take _ = _
      rw [e3]
      exact List.take_of_length_le (by show _ ≤ _ - ((cl a).length + 1); rw [List.length_append, List.length_cons]; lia))
    rw [e1, e2]
theorem lit_eq : (Str.ofString "=") = one 61 := by decide +kernel
theorem lit_sp : (Str.ofString " ") = one 32 := by decide +kernel
theorem lit_nl : (Str.ofString "\n") = one 10 := by decide +kernel
theorem lit_ex : (Str.ofString "!") = one 33 := by decide +kernel
theorem lit_qu : (Str.ofString "?") = one 63 := by decide +kernel
theorem lit_mi : (Str.ofString "-") = one 45 := by decide +kernel
theorem lit_ze : (Str.ofString "0") = one 48 := by decide +kernel
theorem lit_em : cl (Str.ofString "") = [] := by decide +kernel
noncomputable def mkT : Kd → Str
  | .own => Str.ofString ""
  | .send => Str.ofString "!"
  | .take => Str.ofString "?"
noncomputable def hdT (e : Ev) : Str := match e.k with
  | .own => Str.ofString ""
  | .send => Str.ofString "!" ++ num e.l
  | .take => Str.ofString "?" ++ num e.l
noncomputable def evT (e : Ev) : Str := hdT e ++ one 61 ++ num e.v
noncomputable def rowT (r : List Ev) : Str := Str.join (one 32) (r.map evT)
noncomputable def noteT (rs : Rows) : Str := Str.join (one 10) (rs.map rowT)
structure EvOk (e : Ev) : Prop where
  l0 : 0 ≤ e.l
  l1 : e.l ≤ 99
  v0 : -1000000000 ≤ e.v
  v1 : e.v ≤ 1000000000
  own : e.k = .own → e.l = 0
theorem Bnd.ev {rs : Rows} (b : Bnd rs) {r : List Ev} (hr : r ∈ rs) : r.length ≤ 6 ∧ ∀ e ∈ r, EvOk e := by
  obtain ⟨i, hi⟩ := List.getElem?_of_mem hr
  refine ⟨b.len i r hi, fun e he => ?_⟩
  obtain ⟨j, hj⟩ := List.getElem?_of_mem he
  have ha : at? rs i j = some e := by rw [at_row hi]; exact hj
  exact ⟨(b.lets _ _ _ ha).1, (b.lets _ _ _ ha).2, (b.vals _ _ _ ha).1, (b.vals _ _ _ ha).2, b.own0 _ _ _ ha⟩
theorem hdT_codes {e : Ev} {c : Nat} (h : c ∈ cl (hdT e)) : c = 33 ∨ c = 63 ∨ c = 45 ∨ (48 ≤ c ∧ c ≤ 57) := by
  unfold hdT at h
  cases hk : e.k <;> rw [hk] at h <;> dsimp only at h
  · rw [lit_em] at h; cases h
  · rw [cl_app, lit_ex] at h
    rcases List.mem_append.mp h with h | h
    · exact .inl (List.mem_singleton.mp h)
    · rcases num_sign h with h | h
      · exact .inr (.inr (.inl h))
      · exact .inr (.inr (.inr h))
  · rw [cl_app, lit_qu] at h
    rcases List.mem_append.mp h with h | h
    · exact .inr (.inl (List.mem_singleton.mp h))
    · rcases num_sign h with h | h
      · exact .inr (.inr (.inl h))
      · exact .inr (.inr (.inr h))
theorem cl_evT (e : Ev) : cl (evT e) = cl (hdT e) ++ 61 :: cl (num e.v) := by
  unfold evT
  rw [cl_app, cl_app, List.append_assoc]
  rfl
theorem evT_codes {e : Ev} {c : Nat} (h : c ∈ cl (evT e)) : c ≠ 32 ∧ c ≠ 10 := by
  rw [cl_evT] at h
  rcases List.mem_append.mp h with h | h
  · have := hdT_codes h; lia
  · rcases List.mem_cons.mp h with h | h
    · lia
    · have := num_sign h; lia
theorem evT_ne (e : Ev) : cl (evT e) ≠ [] := by rw [cl_evT]; simp
theorem evT_len {e : Ev} (h : EvOk e) : (evT e).length ≤ 50 := by
  rw [← cl_len, cl_evT, List.length_append, List.length_cons, cl_len, cl_len]
  have h1 := num_short h.v0 h.v1
  have hl0 := h.l0
  have hl1 := h.l1
  have h2 := num_short (i := e.l) (by lia) (by lia)
  have h3 : (hdT e).length ≤ 21 := by
    unfold hdT
    cases e.k <;> dsimp only
    · rw [← cl_len, lit_em]; decide
    · rw [strLen_append, lit_ex]; show 1 + _ ≤ 21; lia
    · rw [strLen_append, lit_qu]; show 1 + _ ≤ 21; lia
  lia
theorem lens_le {α : Type} {B : Nat} (f : α → Str) : ∀ (l : List α), (∀ x ∈ l, (f x).length ≤ B) → ((l.map f).map (·.length)).sum ≤ B * l.length
  | [], _ => Nat.le_refl _
  | x :: l, h => by
    have h1 := h x (List.mem_cons_self ..)
    have h2 := lens_le f l fun y hy => h y (List.mem_cons_of_mem _ hy)
    rw [List.map_cons, List.map_cons, List.sum_cons, List.length_cons, Nat.mul_add, Nat.mul_one]
    lia
theorem rowT_len {r : List Ev} (hl : r.length ≤ 6) (h : ∀ e ∈ r, EvOk e) : (rowT r).length ≤ 400 := by
  have h1 := StrLaws.join_length_le (one 32) (r.map evT)
  have h2 := lens_le evT r fun e he => evT_len (h e he)
  rw [List.length_map] at h1
  have h3 : (one 32).length = 1 := rfl
  rw [h3] at h1
  unfold rowT
  lia
theorem noteT_len {rs : Rows} (b : Bnd rs) : (noteT rs).length ≤ 2000 := by
  have h1 := StrLaws.join_length_le (one 10) (rs.map rowT)
  have h2 := lens_le (B := 400) rowT rs fun r hr => rowT_len (b.ev hr).1 (b.ev hr).2
  rw [List.length_map] at h1
  have h3 : (one 10).length = 1 := rfl
  rw [h3] at h1
  have := b.hi
  unfold noteT
  lia
theorem join_codes {s : Nat} : ∀ {ps : List Str} {c : Nat}, c ∈ cl (Str.join (one s) ps) → c = s ∨ ∃ p ∈ ps, c ∈ cl p
  | [], _, h => by cases h
  | [p], _, h => .inr ⟨p, List.mem_cons_self .., h⟩
  | p :: q :: ps, c, h => by
    rw [cl_join2] at h
    rcases List.mem_append.mp h with h | h
    · exact .inr ⟨p, List.mem_cons_self .., h⟩
    · rcases List.mem_cons.mp h with h | h
      · exact .inl h
      · rcases join_codes h with h | ⟨x, hx, h⟩
        · exact .inl h
        · exact .inr ⟨x, List.mem_cons_of_mem _ hx, h⟩
theorem rowT_codes {r : List Ev} : 10 ∉ cl (rowT r) := fun h => by
  rcases join_codes h with h | ⟨p, hp, h⟩
  · exact absurd h (by decide)
  · obtain ⟨e, _, rfl⟩ := List.mem_map.mp hp
    exact (evT_codes h).2 rfl
theorem rowT_nil : rowT [] = Str.ofString "" := cl_ext (by rw [lit_em]; rfl)
theorem rowT_ne {e : Ev} {r : List Ev} : rowT (e :: r) ≠ Str.ofString "" := fun h => by
  have h := congrArg cl h
  rw [lit_em] at h
  unfold rowT at h
  cases r with
  | nil => exact evT_ne e h
  | cons f r =>
    rw [List.map_cons, List.map_cons, cl_join2] at h
    simp at h
theorem split_row {r : List Ev} (h : r ≠ []) : Txt.split (rowT r) (one 32) = r.map evT :=
  split_join (fun z => h (List.map_eq_nil_iff.mp z)) fun p hp => by
    obtain ⟨e, _, rfl⟩ := List.mem_map.mp hp
    exact fun z => (evT_codes z).1 rfl
theorem split_note {rs : Rows} (h : rs ≠ []) : Txt.split (noteT rs) (one 10) = rs.map rowT :=
  split_join (fun z => h (List.map_eq_nil_iff.mp z)) fun p hp => by
    obtain ⟨r, _, rfl⟩ := List.mem_map.mp hp
    exact rowT_codes
theorem part_ev (e : Ev) : Txt.partition (evT e) (one 61) = (hdT e, one 61, num e.v) := partition_at fun h => by
  have := hdT_codes h
  lia
theorem join_ok {sep : Str} {texts : List Str} {B : Nat} (hB : ∀ y ∈ texts, y.length ≤ B) (h : texts.length * B + texts.length * sep.length ≤ 16777216) : JoinOk sep texts = true := by
  unfold JoinOk
  rw [StrLaws.joinFits hB h]
  rfl
end Cw

set_option Elab.async false
set_option linter.all false
set_option maxRecDepth 100000
set_option maxHeartbeats 2000000
namespace Cw
open PySem L2
structure ExcT (K : PySem.W.Frag) (w : World) (mg : Str → Option Value) (C pM pK : Addr) : Prop where
  m_Record : mg "Record" = some (.ref C)
  g_MARKS : mg "MARKS" = some (.ref pM)
  g_KINDS : mg "KINDS" = some (.ref pK)
  d_MARKS : KD K w pM "send" "!" "take" "?"
  d_KINDS : KD K w pK "!" "send" "?" "take"
  c_FIGURES : ∃ t, mg "FIGURES" = some (.str "0123456789" t)
  c_MOST_LINES : ∃ t, mg "MOST_LINES" = some (.int 4 t)
  c_MOST_EVENTS : ∃ t, mg "MOST_EVENTS" = some (.int 6 t)
  c_GREATEST_LETTER : ∃ t, mg "GREATEST_LETTER" = some (.int 99 t)
  c_GREATEST_VALUE : ∃ t, mg "GREATEST_VALUE" = some (.int 1000000000 t)
  r_cl : PySem.W.findIn K (.ref C) "__class__" = some (some (.builtin "object.__class__"))
  r_sp : PySem.W.specialIn K (.builtin "object.__class__") "__get__" = some (some (.builtin "getset_descriptor.__get__"))
  r_tk : PySem.W.takesIn K (.builtin "object.__class__") = some true
  r_mo : PySem.W.mroIn K C (.type "object") = some true
  r_it : PySem.W.kitOne K (.ref C) (.ref C) = some true
inductive sp_shevP (vs : List V) (H : Hp) (Q : VK) (x_3 : XK) : Prop
  | mk (t : Addr) (e : Ev) (h_0 : vs = [.ref t]) (h_1 : H t = some (.tup e.vs)) (h_2 : EvOk e) (h_3 : Q (.str (evT e)) H)
noncomputable def sp_shev : Sp := fun vs H Q x_3 => sp_shevP vs H Q x_3
inductive sp_shrowP (vs : List V) (H : Hp) (Q : VK) (x_3 : XK) : Prop
  | mk (p : Addr) (r : List Ev) (h_0 : vs = [.ref p]) (h_1 : RowA H p r) (h_2 : r.length ≤ 6) (h_3 : ∀ e ∈ r, EvOk e) (h_4 : ∀ H', Same H H' → Q (.str (rowT r)) H')
noncomputable def sp_shrow : Sp := fun vs H Q x_3 => sp_shrowP vs H Q x_3
inductive sp_shownP (C : Addr) (vs : List V) (H : Hp) (Q : VK) (x_3 : XK) : Prop
  | mk (x : Addr) (a : Addr) (sd : Addr) (td : Addr) (ps : List Addr) (rs : Rows) (h_0 : vs = [.ref x]) (h_1 : RecA C H x rs a ps sd td) (h_2 : ∀ H', Same H H' → Q (.str (noteT rs)) H')
noncomputable def sp_shown (C : Addr) : Sp := fun vs H Q x_3 => sp_shownP C vs H Q x_3
inductive sp_rnumP (vs : List V) (H : Hp) (Q : VK) (x_3 : XK) : Prop
  | mk (n : Nat) (g : Int) (h_0 : vs = [.str (num ((n : Nat) : Int)), .int g]) (h_1 : ((n : Nat) : Int) ≤ g) (h_2 : g = 99 ∨ g = 1000000000) (h_3 : ∀ H', Same H H' → Q (.int ((n : Nat) : Int)) H')
noncomputable def sp_rnum : Sp := fun vs H Q x_3 => sp_rnumP vs H Q x_3
inductive sp_rvalP (vs : List V) (H : Hp) (Q : VK) (x_3 : XK) : Prop
  | mk (v : Int) (h_0 : vs = [.str (num v)]) (h_1 : -1000000000 ≤ v) (h_2 : v ≤ 1000000000) (h_3 : ∀ H', Same H H' → Q (.int v) H')
noncomputable def sp_rval : Sp := fun vs H Q x_3 => sp_rvalP vs H Q x_3
inductive sp_revP (vs : List V) (H : Hp) (Q : VK) (x_3 : XK) : Prop
  | mk (e : Ev) (h_0 : vs = [.str (evT e)]) (h_1 : EvOk e) (h_2 : ∀ (t : Addr) (H' : Hp), Same H H' → H' t = some (.tup e.vs) → Q (.ref t) H')
noncomputable def sp_rev : Sp := fun vs H Q x_3 => sp_revP vs H Q x_3
inductive sp_rrowP (vs : List V) (H : Hp) (Q : VK) (x_3 : XK) : Prop
  | mk (r : List Ev) (h_0 : vs = [.str (rowT r)]) (h_1 : r.length ≤ 6) (h_2 : ∀ e ∈ r, EvOk e) (h_3 : ∀ (p : Addr) (H' : Hp), Same H H' → H p = none → RowA H' p r → Q (.ref p) H')
noncomputable def sp_rrow : Sp := fun vs H Q x_3 => sp_rrowP vs H Q x_3
inductive sp_readP (C : Addr) (vs : List V) (H : Hp) (Q : VK) (x_3 : XK) : Prop
  | mk (rs : Rows) (h_0 : vs = [.str (noteT rs)]) (h_1 : Val rs) (h_2 : ∀ (x r : Addr) (qs : List Addr) (sd td : Addr) (H' : Hp), Same H H' → RecA C H' x rs r qs sd td → Q (.ref x) H')
noncomputable def sp_read (C : Addr) : Sp := fun vs H Q x_3 => sp_readP C vs H Q x_3
inductive sp_lnoteP (vs : List V) (H : Hp) (Q : VK) (x_3 : XK) : Prop
  | mk (a : Addr) (ps : List Addr) (rs : Rows) (h_0 : vs = [.ref a]) (h_1 : RowsA H a ps rs) (h_2 : Bnd rs) (h_3 : ∀ H', Same H H' → Q (.str (noteT rs)) H')
noncomputable def sp_lnote : Sp := fun vs H Q x_3 => sp_lnoteP vs H Q x_3
theorem log_num {i : Int} (h1 : -1000000000 ≤ i) (h2 : i ≤ 1000000000) : i.natAbs.log2 < 1920 := log_small (by lia) (by lia)
theorem ev_own {e : Ev} (h : e.k = .own) : Str.empty ++ Str.ofString "=" ++ Str.ofString (toString e.v) = evT e := cl_ext (by
  rw [cl_evT, cl_app, cl_app, lit_eq]
  unfold hdT
  rw [h]
  dsimp only
  rw [lit_em]
  rfl)
theorem ev_other {e : Ev} {m : Str} (h : (e.k = .send ∧ m = Str.ofString "!") ∨ (e.k = .take ∧ m = Str.ofString "?")) : Str.empty ++ m ++ Str.ofString (toString e.l) ++ Str.ofString "=" ++ Str.ofString (toString e.v) = evT e := cl_ext (by
  rw [cl_evT, cl_app, cl_app, cl_app, cl_app, lit_eq]
  unfold hdT
  rcases h with ⟨h, rfl⟩ | ⟨h, rfl⟩ <;> rw [h] <;> dsimp only <;> rw [cl_app, List.append_assoc, List.append_assoc] <;> rfl)
theorem starts_num (v : Int) : Txt.startswith (num v) (Str.ofString "-") = decide (v < 0) := by
  unfold Txt.startswith
  rw [lit_mi]
  by_cases h : v < 0
  · rw [decide_eq_true h]
    have := (StrLaws.subAt_one (num v) 45 0).mpr (by rw [show (num v).cps.toList = cl (num v) from rfl, cl_neg h]; rfl)
    have h2 : decide (0 + (one 45).length ≤ (num v).length) = true := decide_eq_true this.1
    show (decide (0 + (one 45).length ≤ (num v).length) && Builtin.Str.subAt (num v) (one 45) 0) = true
    rw [h2]
    exact this.2
  · rw [decide_eq_false h]
    obtain ⟨n, rfl⟩ : ∃ n : Nat, v = ((n : Nat) : Int) := ⟨v.toNat, by lia⟩
    rw [Bool.eq_false_iff]
    intro z
    have z := Bool.and_eq_true _ _ ▸ z
    have := (StrLaws.subAt_one (num ((n : Nat) : Int)) 45 0).mp ⟨of_decide_eq_true z.1, z.2⟩
    have := digit_codes (List.mem_of_getElem? this)
    lia
theorem drop_num {v : Int} (h : v < 0) : dropS (num v) 1 = num (((-v).toNat : Nat) : Int) := cl_ext (by
  show (cl (num v)).drop 1 = _
  rw [cl_neg h]
  rfl)
theorem drop_hd {c : Nat} {x : Str} : dropS (one c ++ x) 1 = x := cl_ext (by
  show (cl (one c ++ x)).drop 1 = _
  rw [cl_app]
  rfl)
theorem figs_in {c : Nat} (h : 48 ≤ c ∧ c ≤ 57) : (!(Builtin.Str.occurrences (Str.ofString "0123456789") ⟨#[c]⟩ 0 (Str.ofString "0123456789").length 1).isEmpty) = true := by
  rw [StrLaws.found_one]
  rw [show (Str.ofString "0123456789").cps.toList = [48, 49, 50, 51, 52, 53, 54, 55, 56, 57] by decide +kernel]
  have : c = 48 ∨ c = 49 ∨ c = 50 ∨ c = 51 ∨ c = 52 ∨ c = 53 ∨ c = 54 ∨ c = 55 ∨ c = 56 ∨ c = 57 := by lia
  rcases this with rfl | rfl | rfl | rfl | rfl | rfl | rfl | rfl | rfl | rfl <;> decide
theorem num_zero : num 0 = one 48 := by decide +kernel
theorem len_99 : (num 99).length = 2 := by decide +kernel
theorem len_big : (num 1000000000).length = 10 := by decide +kernel
theorem num_ne (v : Int) : num v ≠ Str.ofString "" := fun h => by
  have h := congrArg cl h
  rw [lit_em] at h
  by_cases hv : v < 0
  · rw [cl_neg hv] at h; cases h
  · obtain ⟨n, rfl⟩ : ∃ n : Nat, v = ((n : Nat) : Int) := ⟨v.toNat, by lia⟩
    have := num_pos n
    rw [← cl_len, h] at this
    exact absurd this (by decide)
end Cw
namespace Cw
open PySem L2
theorem if_no {tc : TT} {t r : TS} {D : Ends} {σ : St} {H : Hp} (J : Hp → Prop) (hc : ∀ R : Bool → Hp → Prop, (∀ H', J H' → R false H') → tc σ H R) (hr : ∀ H', J H' → r D σ H') : tSeq (tIfS tc t tNext) r D σ H :=
  hc _ fun H' j => by
    show (if false = true then _ else r D σ H')
    exact iteF (hr H' j)
end Cw
namespace Cw
open PySem L2
theorem hdT_own {e : Ev} (h : e.k = .own) : hdT e = Str.ofString "" := by unfold hdT; rw [h]
theorem hdT_at {e : Ev} (hE : EvOk e) (h : e.k ≠ .own) : ∃ c : Nat, hdT e = one c ++ num (((e.l.toNat : Nat) : Nat) : Int) ∧ kdv "!" "send" "?" "take" ⟨#[c]⟩ = some e.k.str := by
  have hl : ((e.l.toNat : Nat) : Int) = e.l := by have := hE.l0; lia
  rw [hl]
  unfold hdT
  cases hk : e.k with
  | own => exact absurd hk h
  | send => exact ⟨33, by dsimp only; rw [lit_ex], by unfold kdv; rw [if_pos (by decide +kernel)]; rfl⟩
  | take => exact ⟨63, by dsimp only; rw [lit_qu], by unfold kdv; rw [if_neg (by decide +kernel), if_pos (by decide +kernel)]; rfl⟩
theorem one_ne {c : Nat} {x : Str} : one c ++ x ≠ Str.ofString "" := fun h => by
  have h := congrArg cl h
  rw [cl_app, lit_em] at h
  cases h
end Cw

set_option Elab.async false
set_option linter.all false
set_option maxRecDepth 100000
set_option maxHeartbeats 4000000
namespace Cw
open PySem L2
noncomputable def top (i : Nat) : Stmt := PySem.Challenge.pw_cutway_k17_written_and_read.main.body.getD i (.Pass ⟨0, 0, 0, 0⟩)
noncomputable abbrev s_law_cell_at : Stmt := top 33
theorem sc_law_cell_at : FnScope ["script", "k"] ["script", "k"] (defScope s_law_cell_at) := ⟨rfl, rfl, rfl, by decide +kernel, rfl, by decide +kernel, by decide +kernel⟩

noncomputable abbrev s_law_draw : Stmt := top 34
theorem sc_law_draw : FnScope ["script", "k"] ["script", "k"] (defScope s_law_draw) := ⟨rfl, rfl, rfl, by decide +kernel, rfl, by decide +kernel, by decide +kernel⟩

noncomputable abbrev s_law_value : Stmt := top 36
theorem sc_law_value : FnScope ["script", "k", "cell"] ["script", "k"] (defScope s_law_value) := ⟨rfl, rfl, rfl, by decide +kernel, rfl, by decide +kernel, by decide +kernel⟩


section
variable {P : Program} {w : World} {K : PySem.W.Frag} {mg : Str → Option Value} {base : Heap}
theorem ok_cell {f : Addr} {fd : FuncData} (F : Fun K "_law_cell_at" "_law_cell_at" s_law_cell_at f fd) (B : Bl mg) : FnOk P w K mg base CX0 1 f fd ["script", "k"] (sp_cell K) := by
  have sc := sc_law_cell_at
  refine F.ok sc (fun vs H Q E h => ?_) (fun cdv A outer s H vs Q E hr h => ?_)
  · obtain ⟨a, ns, k, rfl, _⟩ := h
    rfl
  · obtain ⟨a, ns, k, rfl, hS, hk, q⟩ := h
    refine ⟨_, (pss_cons (ps_if (pt_cmpR op_lt (pv 1) (pe_callB call_len_seqI (by rfl) (B "len" (by decide +kernel)) bt_len (pa_cons (pv 0) pa_nil)) (nomark _)) (pss_one (ps_ret (pe_ix ix_list (pv 0) (pv 1) (fun _ _ => rfl)))) pss_nil)
       (pss_one (ps_ret pe_int))), ?_⟩
    refine ⟨_, rfl, _, rfl, a, _, rfl, .inl hS, _, _, rfl, rfl, _, rfl, ?_⟩
    refine ite2 (fun h => ?_) (fun h => ?_)
    · exact ⟨_, rfl, _, rfl, a, _, k, _, rfl, rfl, hS, atI_int hk (of_decide_eq_true h), q⟩
    · have e := cell_out (ns := ns) (k := k) (fun z => h (decide_eq_true z))
      rw [e] at q
      exact q
theorem ok_draw {f : Addr} {fd : FuncData} (F : Fun K "_law_draw" "_law_draw" s_law_draw f fd) (B : Bl mg) (D_law_cell_at : Df P w K mg base 1 "_law_cell_at" ["script", "k"] (sp_cell K)) : FnOk P w K mg base CX0 2 f fd ["script", "k"] (sp_draw K) := by
  have sc := sc_law_draw
  refine F.ok sc (fun vs H Q E h => ?_) (fun cdv A outer s H vs Q E hr h => ?_)
  · obtain ⟨a, ns, k, rfl, _⟩ := h
    rfl
  · obtain ⟨a, ns, k, rfl, hS, hk, q⟩ := h
    refine ⟨_, (pss_one (ps_ret (pe_op op_mod (pe_op op_mul (pe_op op_add (pe_df D_law_cell_at (hr.mono (by decide)) (pa_cons (pv 0) (pa_cons (pe_op op_mod (pv 1) pe_int) pa_nil))) (pe_op op_mul pe_int (pv 1))) pe_int) pe_int))), ?_⟩
    refine ⟨_, rfl, _, rfl, _, _, rfl, rfl, (by show (0 : Int) < 61; decide), a, ns, k % 61, rfl, hS, Int.emod_nonneg _ (by decide), ?_⟩
    refine ⟨_, rfl, _, _, rfl, rfl, .inl ⟨by decide, by decide⟩, _, _, rfl, rfl, _, _, rfl, rfl, .inr ⟨by decide, by decide⟩, _, _, rfl, rfl, (by show (0 : Int) < 2147483647; decide), ?_⟩
    exact q
theorem ok_value {f : Addr} {fd : FuncData} (F : Fun K "_law_value" "_law_value" s_law_value f fd) (B : Bl mg) (D_law_cell_at : Df P w K mg base 1 "_law_cell_at" ["script", "k"] (sp_cell K)) (D_law_draw : Df P w K mg base 2 "_law_draw" ["script", "k"] (sp_draw K)) : FnOk P w K mg base CX0 3 f fd ["script", "k"] (sp_value K) := by
  have sc := sc_law_value
  refine F.ok sc (fun vs H Q E h => ?_) (fun cdv A outer s H vs Q E hr h => ?_)
  · obtain ⟨a, ns, k, rfl, _⟩ := h
    rfl
  · obtain ⟨a, ns, k, rfl, hS, hk, q⟩ := h
    refine ⟨_, (pss_cons (ps_set (i := 2) sc.nd rfl (Or.inl rfl) (pe_df D_law_draw (hr.mono (by decide)) (pa_cons (pv 0) (pa_cons (pv 1) pa_nil))))
       (pss_cons (ps_if (pt_cmpR op_eq (pe_op op_mod (pv 2) pe_int) pe_int (nomark _)) (pss_one (ps_ret (pe_op op_sub (pe_op op_mod (pe_df D_law_cell_at (hr.mono (by decide)) (pa_cons (pv 0) (pa_cons (pe_op op_mod (pv 1) pe_int) pa_nil))) pe_int) pe_int))) pss_nil)
       (pss_one (ps_ret (pe_op op_sub (pe_op op_mod (pe_op op_fdiv (pv 2) pe_int) pe_int) pe_int))))), ?_⟩
    refine ⟨_, rfl, _, rfl, a, ns, k, rfl, hS, hk, ?_⟩
    refine ⟨_, rfl, _, _, rfl, rfl, (by show (0 : Int) < 4; decide), rfl, _, rfl, ?_⟩
    refine ite2 (fun h => ?_) (fun h => ?_)
    · have h : V.int (draw ns k % 4) = V.int 0 := of_decide_eq_true h
      injection h with h
      refine ⟨_, rfl, _, rfl, _, _, rfl, rfl, (by show (0 : Int) < 61; decide), a, ns, k % 61, rfl, hS, Int.emod_nonneg _ (by decide), _, _, rfl, rfl, (by show (0 : Int) < 2000000001; decide), _, _, rfl, rfl, ?_⟩
      have e : value ns k = cell ns (k % 61) % 2000000001 - 1000000000 := by unfold value; rw [if_pos h]
      rw [e] at q
      exact q
    · have h : ¬ draw ns k % 4 = 0 := fun z => h (decide_eq_true (by show V.int (draw ns k % 4) = V.int 0; rw [z]))
      refine ⟨_, rfl, _, _, rfl, rfl, ⟨by decide, by decide⟩, _, _, rfl, rfl, (by show (0 : Int) < 5; decide), _, _, rfl, rfl, ?_⟩
      have e : value ns k = draw ns k / 4 % 5 - 2 := by unfold value; rw [if_neg h]
      rw [e] at q
      exact q
end
end Cw

set_option Elab.async false
set_option linter.all false
set_option maxRecDepth 100000
set_option maxHeartbeats 4000000
namespace Cw
open PySem L2
noncomputable abbrev s_law_used : Stmt := top 37
theorem sc_law_used : FnScope ["rows", "letter", "row", "event"] ["rows", "letter"] (defScope s_law_used) := ⟨rfl, rfl, rfl, by decide +kernel, rfl, by decide +kernel, by decide +kernel⟩

noncomputable abbrev s_law_copy : Stmt := top 39
theorem sc_law_copy : FnScope ["rows"] ["rows"] (defScope s_law_copy) := ⟨rfl, rfl, rfl, by decide +kernel, rfl, by decide +kernel, by decide +kernel⟩

section
variable {P : Program} {w : World} {K : PySem.W.Frag} {mg : Str → Option Value} {base : Heap}
noncomputable def inv_used_1 (H : L2.Hp) (a : PySem.Addr) (l : Int) (rs : Cw.Rows) : Nat → St → Hp → Prop := fun i σ H' => H' = H ∧ (∃ v v2, σ = [some (.ref a), some (.int l), v, v2]) ∧ ∀ (h p : Nat) (e : Ev), h < i → at? rs h p = some e → e.k ≠ .own → e.l ≠ l
noncomputable def inv_used_2 (H' : L2.Hp) (a : PySem.Addr) (l : Int) (p : PySem.Addr) (i : Nat) (rs : Cw.Rows) : Nat → St → Hp → Prop := fun j σ H2 => H2 = H' ∧ (∃ v2, σ = [some (.ref a), some (.int l), some (.ref p), v2]) ∧ ∀ (h p : Nat) (e : Ev), (h < i ∨ (h = i ∧ p < j)) → at? rs h p = some e → e.k ≠ .own → e.l ≠ l
theorem ok_used {f : Addr} {fd : FuncData} (F : Fun K "_law_used" "_law_used" s_law_used f fd) (B : Bl mg) : FnOk P w K mg base CX0 1 f fd ["rows", "letter"] sp_used := by
  have sc := sc_law_used
  refine F.ok sc (fun vs H Q E h => ?_) (fun cdv A outer s H vs Q E hr h => ?_)
  · obtain ⟨a, ps, rs, l, rfl, _⟩ := h
    rfl
  · obtain ⟨a, ps, rs, l, rfl, hR, q⟩ := h
    refine ⟨_, (pss_cons (ps_for PassesOwn.never rfl (pi_list (pv 0)) (pg_name (i := 2) sc.nd rfl (Or.inl rfl)) (pss_one (ps_for PassesOwn.never rfl (pi_list (pv 2)) (pg_name (i := 3) sc.nd rfl (Or.inl rfl)) (pss_one (ps_if ((pw_and (pt_cmpR op_ne (pe_ix ix_tup (pv 3) pe_int (fun _ _ => rfl)) pe_str (nomark _)) (pw_and1 (pt_cmpR op_eq (pe_ix ix_tup (pv 3) pe_int (fun _ _ => rfl)) (pv 1) (nomark _))))).pt (pss_one (ps_ret pe_bl)) pss_nil)))))
       (pss_one (ps_ret pe_bl))), ?_⟩
    refine ⟨_, rfl, a, rfl, ⟨_, SqL.of hR.top⟩, for_list (K := K) (a := a) (xs := ps.map V.ref) (inv_used_1 H a l rs)
      ⟨rfl, ⟨_, _, rfl⟩, fun h p e hh => absurd hh (Nat.not_lt_zero _)⟩ (fun i σ H' _ ⟨e, _⟩ => by rw [e]; exact SqL.of hR.top) ?_ ?_⟩
    · rintro i y σ H' hi ⟨rfl, ⟨v, v2, rfl⟩, hno⟩
      obtain ⟨p, hp, rfl⟩ := map_ref hi
      obtain ⟨r, hr', xs, hx, m⟩ := hR.get hp
      refine ⟨_, rfl, p, rfl, ⟨_, SqL.of hx⟩, for_list (K := K) (a := p) (xs := xs) (inv_used_2 H' a l p i rs)
        ⟨rfl, ⟨_, rfl⟩, fun h p e hh => hno h p e (by lia)⟩ (fun i σ H' _ ⟨e, _⟩ => by rw [e]; exact SqL.of hx) ?_ ?_⟩
      · rintro j z σ H2 hj ⟨rfl, ⟨v2, rfl⟩, hno2⟩
        obtain ⟨t, e, he, rfl, ht⟩ := ev_get m hj
        refine ⟨_, rfl, t, _, 0, _, rfl, rfl, SqT.of ht, rfl, rfl, _, rfl, ?_⟩
        have hat : at? rs i j = some e := by rw [at_row hr']; exact he
        have step : (e.k ≠ .own → e.l ≠ l) → ∀ (h p : Nat) (e : Ev), (h < i ∨ (h = i ∧ p < j + 1)) → at? rs h p = some e → e.k ≠ .own → e.l ≠ l := by
          intro z h p e' hh q' k'
          by_cases hp : h = i ∧ p = j
          · obtain ⟨rfl, rfl⟩ := hp
            rw [hat] at q'
            cases q'
            exact z k'
          · exact hno2 h p e' (by lia) q' k'
        refine ite2 (fun h1 => ?_) (fun h1 => ?_)
        · refine ⟨_, rfl, t, _, 1, _, rfl, rfl, SqT.of ht, rfl, _, rfl, rfl, _, rfl, ?_⟩
          refine ite2 (fun h2 => ?_) (fun h2 => ?_)
          · have h2 : V.int e.l = V.int l := of_decide_eq_true h2
            injection h2 with h2
            refine q true ⟨fun _ => ⟨i, j, e, hat, fun k => ?_, h2⟩, fun _ => rfl⟩
            rw [k] at h1
            exact absurd h1 (by decide +kernel)
          · refine ⟨rfl, ⟨_, rfl⟩, step fun _ z => h2 (decide_eq_true (by show V.int e.l = V.int l; rw [z]))⟩
        · refine iteF ?_
          refine ⟨rfl, ⟨_, rfl⟩, step fun k => ?_⟩
          exfalso
          refine h1 ?_
          show (!decide (V.str e.k.str = V.str Kd.own.str)) = true
          rw [kd_dec, decide_eq_false k]
          rfl
      · rintro σ H2 ⟨rfl, ⟨v2, rfl⟩, hno2⟩
        refine ⟨rfl, ⟨_, _, rfl⟩, fun h p' e' hh q' => hno2 h p' e' ?_ q'⟩
        by_cases z : h = i
        · right
          refine ⟨z, ?_⟩
          rw [z, at_row hr'] at q'
          have := (List.getElem?_eq_some_iff.mp q').1
          rw [Paired.length m]
          exact this
        · lia
    · rintro σ H' ⟨rfl, ⟨v, v2, rfl⟩, hno⟩
      refine q false ⟨(fun z => nomatch z), fun ⟨h, p, e, q', k, hl⟩ => ?_⟩
      refine absurd hl (hno h p e ?_ q' k)
      obtain ⟨r, hr', _⟩ := at_some q'
      rw [List.length_map, hR.len]
      exact (List.getElem?_eq_some_iff.mp hr').1
noncomputable def inv_copy_1 (H : L2.Hp) (D : PySem.Addr) (rs : Cw.Rows) : Nat → St → List V → Hp → Prop := fun i σ ys H2 => ∃ (qs : List Addr) (v : Option V), σ = [v] ∧ ys = qs.map V.ref ∧ Same H H2 ∧ H2 D = some (.lst (qs.map V.ref)) ∧ Paired (RowA H2) qs (rs.take i) ∧ (∀ q ∈ qs, H q = none) ∧ qs.Nodup ∧ D ∉ qs
theorem ok_copy {f : Addr} {fd : FuncData} (F : Fun K "_law_copy" "_law_copy" s_law_copy f fd) (B : Bl mg) : FnOk P w K mg base CX0 1 f fd ["rows"] sp_copy := by
  have sc := sc_law_copy
  refine F.ok sc (fun vs H Q E h => ?_) (fun cdv A outer s H vs Q E hr h => ?_)
  · obtain ⟨a, ps, rs, rfl, _⟩ := h
    rfl
  · obtain ⟨a, ps, rs, rfl, hR, hz, q⟩ := h
    refine ⟨_, (pss_one (ps_ret (pe_lc (te := (tCB (rListOf K) (tCons (tVar 0) tNil))) (tt := tTrue) (Blk.plain (ts := ["row"]) (by decide +kernel) (by decide +kernel) rfl (by decide +kernel)) rfl (pi_list (pv 0)) (fun _ _ _ _ => (pg_name (i := 0) (show List.Nodup (["row"] : List Str) by decide +kernel) rfl (Or.inl rfl))) (fun _ _ _ _ => pifs_nil) (fun _ _ _ _ => (pe_callTy call_list_ofI (by rfl) (B "list" (by decide +kernel)) bt_list (pa_cons (pv 0) pa_nil)))))), ?_⟩
    refine ⟨_, rfl, a, rfl, ⟨_, SqL.of hR.top⟩, fun D hD => lc_list (K := K) (a := a) (xs := ps.map V.ref) (inv_copy_1 H D rs)
      ⟨[], _, rfl, rfl, Same.new hD, upd_same, .nil, fun q hq => (nomatch hq), List.nodup_nil, fun z => (nomatch z)⟩ (fun i σ ys H2 _ ⟨qs, v, _, _, s2, _⟩ => SqL.of (s2 _ _ hR.top)) ?_ ?_⟩
    · rintro i y σ ys H2 hi ⟨qs, v, rfl, rfl, s2, hD2, hq, hn, nd, nD⟩
      obtain ⟨p, hp, rfl⟩ := map_ref hi
      obtain ⟨r, hr', xs, hx, m⟩ := hR.get hp
      refine ⟨_, rfl, p, xs, rfl, .inl (SqL.of (s2 _ _ hx)), fun l hl => ?_⟩
      obtain ⟨c1, c2, c3, c4, c5, c6⟩ := copy_step s2 hD hD2 hq hn nd nD hr' m hl
      refine ⟨by rw [upd_ne (by rintro rfl; rw [hl] at hD2; cases hD2)]; exact hD2, ?_, qs ++ [l], _, rfl, by simp, ?_⟩
      · have e := Paired.length hq
        rw [List.length_map, e, List.length_take]
        exact small1000 (by lia)
      · rw [List.map_append] at c1 c2 c3 ⊢
        exact ⟨c1, c2, c3, c4, c5, c6⟩
    · rintro σ ys H2 ⟨qs, v, rfl, rfl, s2, hD2, hq, hn, nd, nD⟩
      have e : rs.take (ps.map V.ref).length = rs := by rw [List.length_map, hR.len, List.take_length]
      rw [e] at hq
      exact q D qs H2 s2 ⟨⟨hD2, hq⟩, hD, hn, nd, nD⟩
end
end Cw

set_option Elab.async false
set_option linter.all false
set_option maxRecDepth 100000
set_option maxHeartbeats 4000000
namespace Cw
open PySem L2
noncomputable abbrev s_letter_places : Stmt := top 9
theorem sc_letter_places : FnScope ["rows", "kind", "places", "hand", "row", "at", "event", "letter"] ["rows", "kind"] (defScope s_letter_places) := ⟨rfl, rfl, rfl, by decide +kernel, rfl, by decide +kernel, by decide +kernel⟩

noncomputable abbrev s_check_sent : Stmt := top 10
theorem sc_check_sent : FnScope ["sends", "takes", "letter"] ["sends", "takes"] (defScope s_check_sent) := ⟨rfl, rfl, rfl, by decide +kernel, rfl, by decide +kernel, by decide +kernel⟩

noncomputable abbrev s_can_be_done : Stmt := top 13
theorem sc_can_be_done : FnScope ["event", "sends", "counts", "sent"] ["event", "sends", "counts"] (defScope s_can_be_done) := ⟨rfl, rfl, rfl, by decide +kernel, rfl, by decide +kernel, by decide +kernel⟩

section
variable {P : Program} {w : World} {K : PySem.W.Frag} {mg : Str → Option Value} {base : Heap}
noncomputable def inv_places_1 (H : L2.Hp) (a : PySem.Addr) (k : Cw.Kd) (d : PySem.Addr) (rs : Cw.Rows) : Nat → St → Hp → Prop := fun i σ H2 => Same H H2 ∧ (∃ v3 v4 v5 v6 v7, σ = [some (.ref a), some (.str k.str), some (.ref d), v3, v4, v5, v6, v7]) ∧ ∃ kvs, H2 d = some (.dK kvs) ∧ Paired (PlA H2) kvs (soFar k rs i 0)
noncomputable def inv_places_2 (H : L2.Hp) (a : PySem.Addr) (k : Cw.Kd) (d : PySem.Addr) (i : Nat) (p : PySem.Addr) (rs : Cw.Rows) : Nat → St → Hp → Prop := fun j σ H3 => Same H H3 ∧ (∃ v5 v6 v7, σ = [some (.ref a), some (.str k.str), some (.ref d), some (.int (i : Nat)), some (.ref p), v5, v6, v7]) ∧ ∃ kvs, H3 d = some (.dK kvs) ∧ Paired (PlA H3) kvs (soFar k rs i j)
theorem ok_places {f : Addr} {fd : FuncData} (F : Fun K "letter_places" "letter_places" s_letter_places f fd) (B : Bl mg) : FnOk P w K mg base CX0 1 f fd ["rows", "kind"] sp_places := by
  have sc := sc_letter_places
  refine F.ok sc (fun vs H Q E h => ?_) (fun cdv A outer s H vs Q E hr h => ?_)
  · obtain ⟨a, ps, rs, k, rfl, _⟩ := h
    rfl
  · obtain ⟨a, ps, rs, k, rfl, hR, hU, hB, q⟩ := h
    have hu := hu_of hr
    refine ⟨_, (pss_cons (ps_set (i := 2) sc.nd rfl (Or.inl rfl) pe_dnewK)
       (pss_cons (ps_for PassesOwn.never rfl (pi_enum rfl (B "enumerate" (by decide +kernel)) (pv 0)) (pg_tup rfl (pgs_cons (pg_name (i := 3) sc.nd rfl (Or.inl rfl)) (pgs_cons (pg_name (i := 4) sc.nd rfl (Or.inl rfl)) pgs_nil))) (pss_one (ps_for PassesOwn.never rfl (pi_enum rfl (B "enumerate" (by decide +kernel)) (pv 4)) (pg_tup rfl (pgs_cons (pg_name (i := 5) sc.nd rfl (Or.inl rfl)) (pgs_cons (pg_name (i := 6) sc.nd rfl (Or.inl rfl)) pgs_nil))) (pss_one (ps_if (pt_cmpR op_eq (pe_ix ix_tup (pv 6) pe_int (fun _ _ => rfl)) (pv 1) (nomark _)) (pss_cons (ps_set (i := 7) sc.nd rfl (Or.inl rfl) (pe_ix ix_tup (pv 6) pe_int (fun _ _ => rfl)))
       (pss_cons (ps_if (pt_cmp (pc_din hu (pv 7) (pv 2))) (pss_one ps_never) pss_nil)
       (pss_one (ps_dput hu (pv 2) (pv 7) (pe_tup (pa_cons (pv 3) (pa_cons (pv 5) pa_nil))) rfl)))) pss_nil)))))
       (pss_one (ps_ret (pv 2))))), ?_⟩
    intro d hd
    refine ⟨_, rfl, a, rfl, ⟨_, SqL.of ((Same.new hd) _ _ hR.top)⟩, for_enum (K := K) (a := a) (xs := ps.map V.ref) (inv_places_1 H a k d rs)
      ⟨Same.new hd, ⟨_, _, _, _, _, rfl⟩, [], upd_same, by rw [soFar_zero]; exact .nil⟩ (fun i σ H' _ ⟨s2, _⟩ => SqL.of (s2 _ _ hR.top)) ?_ ?_⟩
    · rintro i y σ H2 pe hi ⟨s2, ⟨v3, v4, v5, v6, v7, rfl⟩, kvs, hk, hm⟩ hpe
      obtain ⟨p, hp, rfl⟩ := map_ref hi
      obtain ⟨r, hr', xs, hx, m⟩ := hR.get hp
      have s3 : Same H (L2.upd H2 pe (.tup [.int (i : Nat), .ref p])) := s2.trans (Same.new hpe)
      refine ⟨pe, _, rfl, SqT.of upd_same, rfl, _, _, rfl, _, _, rfl, rfl, ?_⟩
      refine ⟨_, rfl, p, rfl, ⟨_, SqL.of (s3 _ _ hx)⟩, for_enum (K := K) (a := p) (xs := xs) (inv_places_2 H a k d i p rs)
        ⟨s3, ⟨_, _, _, rfl⟩, kvs, by rw [upd_ne (ne_of_none hk hpe)]; exact hk, Paired.mapP hm fun x y z => z.keep (S := fun _ => False) (fun b o e _ => Same.new hpe b o e) (fun _ _ z => z.elim)⟩ (fun i σ H' _ ⟨s2, _⟩ => SqL.of (s2 _ _ hx)) ?_ ?_⟩
      · rintro j z σ H3 pe3 hj ⟨s4, ⟨v5, v6, v7, rfl⟩, kvs, hk, hm⟩ hpe3
        obtain ⟨t, e, he, rfl, ht⟩ := ev_get m hj
        have s5 : Same H3 (L2.upd H3 pe3 (.tup [.int (j : Nat), .ref t])) := Same.new hpe3
        have ht5 := s5 _ _ (s4 _ _ ht)
        have hk5 := s5 _ _ hk
        refine ⟨pe3, _, rfl, SqT.of upd_same, rfl, _, _, rfl, _, _, rfl, rfl, ?_⟩
        refine ⟨_, rfl, t, _, 0, _, rfl, rfl, SqT.of ht5, rfl, _, rfl, rfl, _, rfl, ?_⟩
        have hm5 : Paired (PlA (L2.upd H3 pe3 (.tup [.int (j : Nat), .ref t]))) kvs (soFar k rs i j) := Paired.mapP hm fun x y z => z.keep (S := fun _ => False) (fun b o e _ => s5 b o e) (fun _ _ z => z.elim)
        refine ite2 (fun h1 => ?_) (fun h1 => ?_)
        · have h1 : decide (V.str e.k.str = V.str k.str) = true := h1
          rw [kd_dec] at h1
          have h1 : e.k = k := of_decide_eq_true h1
          have hv : valV kvs (Sum.inl e.l : Key) = none := pl_none hm (soFar_new hU hr' he h1)
          refine ⟨_, rfl, t, _, 1, _, rfl, rfl, SqT.of ht5, rfl, ?_⟩
          refine ⟨_, rfl, _, rfl, d, _, rfl, DGet.k (k := Sum.inl e.l) hk5, _, rfl, ?_⟩
          rw [hv]
          refine iteF ?_
          refine ⟨_, rfl, _, rfl, (by show 2 ≤ sizeLine; decide), fun t2 ht2 => ?_⟩
          have s6 := Same.new (o := .tup [.int (i : Nat), .int (j : Nat)]) ht2
          have hk6 := s6 _ _ hk5
          refine ⟨_, rfl, _, rfl, d, _, rfl, DPut.k (k := Sum.inl e.l) hk6 (small1000 (by have := Paired.length hm; have := soFar_len (k := k) hB i j; lia)), ?_⟩
          have nd : ∀ b o, H b = some o → b ≠ d := fun b o z => ne_of_none z hd
          refine ⟨fun b o z => ?_, ⟨_, _, _, rfl⟩, _, upd_same, ?_⟩
          · rw [upd_ne (nd b o z)]
            exact s6 _ _ (s5 _ _ (s4 _ _ z))
          · rw [soFar_ev hr' he, if_pos h1, putK_new _ hv]
            have kd : Kept (fun b => b = d) (L2.upd (L2.upd H3 pe3 (.tup [.int (j : Nat), .ref t])) t2 (.tup [.int (i : Nat), .int (j : Nat)])) (L2.upd (L2.upd (L2.upd H3 pe3 (.tup [.int (j : Nat), .ref t])) t2 (.tup [.int (i : Nat), .int (j : Nat)])) d (.dK (kvs ++ [(Sum.inl e.l, .ref t2)]))) := Kept.upd rfl
            have nt : NoTup (fun b => b = d) (L2.upd (L2.upd H3 pe3 (.tup [.int (j : Nat), .ref t])) t2 (.tup [.int (i : Nat), .int (j : Nat)])) := fun b xs hb z => by rw [hb, hk6] at z; cases z
            refine Paired.snoc (Paired.mapP hm5 fun x y z => (z.keep (S := fun _ => False) (fun b o e _ => s6 b o e) (fun _ _ z => z.elim)).keep kd nt) ⟨rfl, t2, rfl, ?_⟩
            rw [upd_ne (by rintro rfl; rw [hk5] at ht2; cases ht2), upd_same]
        · refine ⟨s4.trans s5, ⟨_, _, _, rfl⟩, kvs, hk5, ?_⟩
          rw [soFar_ev hr' he, if_neg (fun z => h1 (by show decide (V.str e.k.str = V.str k.str) = true; rw [kd_dec, decide_eq_true z])), List.append_nil]
          exact hm5
      · rintro σ H3 ⟨s4, ⟨v5, v6, v7, rfl⟩, kvs, hk, hm⟩
        refine ⟨s4, ⟨_, _, _, _, _, rfl⟩, kvs, hk, ?_⟩
        rw [Paired.length m, soFar_row hr'] at hm
        exact hm
    · rintro σ H2 ⟨s2, ⟨v3, v4, v5, v6, v7, rfl⟩, kvs, hk, hm⟩
      rw [List.length_map, hR.len, soFar_all] at hm
      exact ⟨_, rfl, q d kvs H2 s2 hd hk hm⟩
noncomputable def inv_check_1 (H : L2.Hp) (td : PySem.Addr) (o : PySem.Obj) (tkvs : List (L2.Key × L2.V)) (sd : PySem.Addr) : Nat → St → Hp → Prop := fun i σ H2 => H2 = L2.upd H td (.frz o (.dK tkvs)) ∧ ∃ v, σ = [some (.ref sd), some (.ref td), v]
theorem ok_check {f : Addr} {fd : FuncData} (F : Fun K "check_sent" "check_sent" s_check_sent f fd) (B : Bl mg) : FnOk P w K mg base CX0 1 f fd ["sends", "takes"] sp_check := by
  have sc := sc_check_sent
  refine F.ok sc (fun vs H Q E h => ?_) (fun cdv A outer s H vs Q E hr h => ?_)
  · obtain ⟨sd, td, skvs, tkvs, rfl, _⟩ := h
    rfl
  · obtain ⟨sd, td, skvs, tkvs, rfl, hs, ht, hne, hall, q⟩ := h
    have hu := hu_of hr
    refine ⟨_, (pss_one (ps_for PassesOwn.never rfl (pi_dkeys (pv 1)) (pg_name (i := 2) sc.nd rfl (Or.inl rfl)) (pss_one (ps_if (pt_cmp (pc_dnotin hu (pv 2) (pv 0))) (pss_one ps_never) pss_nil)))), ?_⟩
    refine ⟨_, rfl, td, tkvs, rfl, ht, fun o => for_dkeys (inv_check_1 H td o tkvs sd) ⟨rfl, _, rfl⟩ (fun i σ H2 _ ⟨e, _⟩ => by rw [e]; exact upd_same) ?_ ?_⟩
    · rintro i p σ H2 hi ⟨rfl, v, rfl⟩
      refine ⟨_, rfl, _, rfl, sd, _, rfl, DGet.k (k := p.1) (by rw [upd_ne hne]; exact hs), _, rfl, ?_⟩
      rw [hall p (List.mem_of_getElem? hi)]
      exact iteF ⟨rfl, _, rfl⟩
    · rintro σ H2 ⟨rfl, v, rfl⟩
      exact q o
theorem ok_canS {f : Addr} {fd : FuncData} (F : Fun K "can_be_done" "can_be_done" s_can_be_done f fd) (B : Bl mg) : FnOk P w K mg base CX0 1 f fd ["event", "sends", "counts"] (sp_canS K) := by
  have sc := sc_can_be_done
  refine F.ok sc (fun vs H Q E h => ?_) (fun cdv A outer s H vs Q E hr h => ?_)
  · obtain ⟨t, sd, c, e, ns, rs, rfl, _⟩ := h
    rfl
  · obtain ⟨t, sd, c, e, ns, rs, rfl, ht, ⟨kvs, hd, hm⟩, hc, hl, hU, hs, q⟩ := h
    have hu := hu_of hr
    refine ⟨_, (pss_cons (ps_if (pt_cmpR op_ne (pe_ix ix_tup (pv 0) pe_int (fun _ _ => rfl)) pe_str (nomark _)) (pss_one (ps_ret pe_bl)) pss_nil)
       (pss_cons (ps_set (i := 3) sc.nd rfl (Or.inl rfl) (pe_dget hu (pv 1) (pe_ix ix_tup (pv 0) pe_int (fun _ _ => rfl)) (fun _ _ => rfl)))
       (pss_one (ps_ret (pe_cmpR op_lt (pe_ix ix_tup (pv 3) pe_int (fun _ _ => rfl)) (pe_ix ix_two (pv 2) (pe_ix ix_tup (pv 3) pe_int (fun _ _ => rfl)) (fun _ _ => rfl)) (nomark _)))))), ?_⟩
    refine ⟨_, rfl, t, _, 0, _, rfl, rfl, SqT.of ht, rfl, rfl, _, rfl, ?_⟩
    refine ite2 (fun h1 => ?_) (fun h1 => ?_)
    · have h1 : (!decide (V.str e.k.str = V.str Kd.take.str)) = true := h1
      rw [kd_dec] at h1
      have h1 : ¬ e.k = .take := by simpa using h1
      exact q true ⟨fun _ z => absurd z h1, fun _ => rfl⟩
    · have h1 : ¬ (!decide (V.str e.k.str = V.str Kd.take.str)) = true := h1
      rw [kd_dec] at h1
      have h1 : e.k = .take := by simpa using h1
      obtain ⟨h', p', e', ha, hk', hl'⟩ := hs h1
      obtain ⟨t2, hv, ht2⟩ := pl_some hm (places_nodup hU) (mem_places.mpr ⟨e', ha, hk', hl'⟩)
      have hlt : h' < ns.length := by
        obtain ⟨r, hr', _⟩ := at_some ha
        rw [hl]
        exact (List.getElem?_eq_some_iff.mp hr').1
      have hni : ns[h']? = some (ns[h']'hlt) := List.getElem?_eq_getElem hlt
      generalize ns[h']'hlt = n at hni
      refine ⟨_, rfl, _, rfl, t, _, 1, _, rfl, rfl, SqT.of ht, rfl, sd, _, rfl, .inl ⟨kvs, .inl e.l, hd, rfl, hv.symm⟩, ?_⟩
      refine ⟨_, rfl, t2, _, 1, _, rfl, rfl, SqT.of ht2, rfl, _, rfl, _, rfl, t2, _, 0, _, rfl, rfl, SqT.of ht2, rfl, c, _, _, _, rfl, rfl, hc, ints_at hni, _, _, rfl, rfl, ?_⟩
      refine q _ ⟨fun z _ => ?_, fun z => ?_⟩
      · have z : ((p' : Nat) : Int) < n := of_decide_eq_true z
        exact ⟨h', p', n, e', ha, hk', hl', hni, z⟩
      · obtain ⟨h2, p2, n2, e2, ha2, hk2, hl2, hc2, hp2⟩ := z h1
        obtain ⟨z1, z2⟩ := hU h2 p2 h' p' e2 e' ha2 ha hk2 hk' (by rw [hl2, hl'])
        subst z1; subst z2
        rw [hni] at hc2
        cases hc2
        exact decide_eq_true hp2
theorem ok_can {f : Addr} {fd : FuncData} (F : Fun K "can_be_done" "can_be_done" s_can_be_done f fd) (B : Bl mg) : FnOk P w K mg base CX0 1 f fd ["event", "sends", "counts"] sp_can := (ok_canS F B).imp fun _ _ _ _ h => can_of_canS h
end
end Cw

set_option Elab.async false
set_option linter.all false
set_option maxRecDepth 100000
set_option maxHeartbeats 4000000
namespace Cw
open PySem L2
noncomputable abbrev s_counts_done : Stmt := top 12
theorem sc_counts_done : FnScope ["rows", "sends", "counts", "moved", "hand", "row"] ["rows", "sends"] (defScope s_counts_done) := ⟨rfl, rfl, rfl, by decide +kernel, rfl, by decide +kernel, by decide +kernel⟩

noncomputable abbrev s_find_ring : Stmt := top 11
theorem sc_find_ring : FnScope ["rows", "sends", "counts", "hand", "row"] ["rows", "sends"] (defScope s_find_ring) := ⟨rfl, rfl, rfl, by decide +kernel, rfl, by decide +kernel, by decide +kernel⟩

section
variable {P : Program} {w : World} {K : PySem.W.Frag} {mg : Str → Option Value} {base : Heap}
noncomputable def inv_done_1 (H : L2.Hp) (c : PySem.Addr) : Nat → St → List V → Hp → Prop := fun i σ ys H2 => ∃ v, σ = [v] ∧ ys = List.replicate i (.int 0) ∧ Same H H2 ∧ H2 c = some (.lst ys)
noncomputable def inv_done_2 (a : PySem.Addr) (sd : PySem.Addr) (c : PySem.Addr) (H : L2.Hp) (rs : Cw.Rows) (cs : List Nat) : Nat → St → Hp → Prop := fun i σ H3 => ∃ cs2 mv v4 v5, σ = [some (.ref a), some (.ref sd), some (.ref c), some (.bl mv), v4, v5] ∧ DoneI H H3 c cs2 rs ∧ (mv = false → cs2 = cs ∧ ∀ h, h < i → StuckAt rs cs h) ∧ (mv = true → cs.sum < cs2.sum)
theorem ok_done {f : Addr} {fd : FuncData} (F : Fun K "counts_done" "counts_done" s_counts_done f fd) (B : Bl mg) (D_can_be_done : Df P w K mg base 1 "can_be_done" ["event", "sends", "counts"] sp_can) : FnOk P w K mg base CX0 2 f fd ["rows", "sends"] sp_done := by
  have sc := sc_counts_done
  refine F.ok sc (fun vs H Q E h => ?_) (fun cdv A outer s H vs Q E hr h => ?_)
  · obtain ⟨a, sd, ps, rs, rfl, _⟩ := h
    rfl
  · obtain ⟨a, sd, ps, rs, rfl, hR, hS, hU, hT, hz, q⟩ := h
    have hu := hu_of hr
    have hSk : ∀ H2, Same H H2 → SendsA H2 sd rs := fun H2 s2 => by
      obtain ⟨kvs, rd, m⟩ := hS
      refine ⟨kvs, ?_, Paired.mapP m fun x y z => z.keep (S := fun _ => False) (fun b o e _ => s2 b o e) (fun _ _ z => z.elim)⟩
      rcases rd with rd | ⟨o, rd⟩
      · exact .inl (s2 _ _ rd)
      · exact .inr ⟨o, s2 _ _ rd⟩
    refine ⟨_, (pss_cons (ps_setLC (i := 2) sc.nd rfl (Or.inl rfl) (te := (tC (.int 0))) (tt := tTrue) (Blk.plain (ts := ["row"]) (by decide +kernel) (by decide +kernel) rfl (by decide +kernel)) rfl (pi_list (pv 0)) (fun _ _ _ _ => (pg_name (i := 0) (show List.Nodup (["row"] : List Str) by decide +kernel) rfl (Or.inl rfl))) (fun _ _ _ _ => pifs_nil) (fun _ _ _ _ => pe_int))
       (pss_cons (ps_set (i := 3) sc.nd rfl (Or.inl rfl) pe_bl)
       (pss_cons (ps_while PassesOwn.never (pt_val (pv 3)) (pss_cons (ps_set (i := 3) sc.nd rfl (Or.inl rfl) pe_bl)
       (pss_one (ps_for PassesOwn.never rfl (pi_enum rfl (B "enumerate" (by decide +kernel)) (pv 0)) (pg_tup rfl (pgs_cons (pg_name (i := 4) sc.nd rfl (Or.inl rfl)) (pgs_cons (pg_name (i := 5) sc.nd rfl (Or.inl rfl)) pgs_nil))) (pss_one (ps_while PassesOwn.never ((pw_and (pt_cmpR op_lt (pe_ix ix_list (pv 2) (pv 4) (fun _ _ => rfl)) (pe_callB call_len_seqI (by rfl) (B "len" (by decide +kernel)) bt_len (pa_cons (pv 5) pa_nil)) (nomark _)) (pw_and1 (pt_val (pe_df D_can_be_done (hr.mono (by decide)) (pa_cons (pe_ix ix_list (pv 5) (pe_ix ix_list (pv 2) (pv 4) (fun _ _ => rfl)) (fun _ _ => rfl)) (pa_cons (pv 1) (pa_cons (pv 2) pa_nil)))))))).pt (pss_cons (ps_augS (pv 2) (pv 4) get_list pe_int ip_add set_list)
       (pss_one (ps_set (i := 3) sc.nd rfl (Or.inl rfl) pe_bl)))))))))
       (pss_one (ps_ret (pv 2)))))), ?_⟩
    refine ⟨_, rfl, a, rfl, ⟨_, SqL.of hR.top⟩, fun c hc => lc_list (K := K) (a := a) (xs := ps.map V.ref) (inv_done_1 H c)
      ⟨_, rfl, rfl, Same.new hc, upd_same⟩ (fun i σ ys H2 _ ⟨v, _, _, s2, _⟩ => SqL.of (s2 _ _ hR.top)) ?_ ?_⟩
    · rintro i y σ ys H2 hi ⟨v, rfl, rfl, s2, hD2⟩
      have hi' := (List.getElem?_eq_some_iff.mp hi).1
      rw [List.length_map, hR.len] at hi'
      refine ⟨hD2, small1000 (by rw [List.length_replicate]; lia), _, rfl, by rw [List.replicate_succ'], fun b o z => ?_, upd_same⟩
      rw [upd_ne (ne_of_none z hc)]
      exact s2 b o z
    · rintro σ ys H2 ⟨v, rfl, rfl, s2, hD2⟩
      have d0 : DoneI H H2 c (rs.map fun _ => 0) rs := by
        refine ⟨s2, ?_, .zero⟩
        rw [hD2, List.length_map, hR.len]
        unfold csV
        congr 2
        rw [List.map_map]
        exact (List.map_const' (l := rs) (b := V.int 0)).symm
      clear hD2 s2
      -- moved = True; while moved
      refine ⟨fun m σ H2 => ∃ cs mv v4 v5, σ = [some (.ref a), some (.ref sd), some (.ref c), some (.bl mv), v4, v5] ∧ DoneI H H2 c cs rs ∧ (mv = false → Stuck rs cs) ∧ m = if mv = true then 1 + ((rs.map List.length).sum - cs.sum) else 0,
        ⟨_, _, true, _, _, rfl, d0, fun z => (nomatch z), rfl⟩, ?_⟩
      rintro m σ H2 ⟨cs, mv, v4, v5, rfl, d, hst, rfl⟩
      refine ⟨_, rfl, mv, rfl, ?_⟩
      cases mv with
      | false =>
        refine iteF ?_
        exact ⟨_, rfl, q c cs H2 d.same hc d.hc d.rc (hst rfl)⟩
      | true =>
        refine iteT ?_
        clear hst
        refine ⟨fun σ H3 => ∃ cs2 mv v4 v5, σ = [some (.ref a), some (.ref sd), some (.ref c), some (.bl mv), v4, v5] ∧ DoneI H H3 c cs2 rs ∧ (mv = false → Stuck rs cs2) ∧ (mv = true → cs.sum < cs2.sum), ?_, ?_⟩
        · rintro σ H3 ⟨cs2, mv, v4, v5, rfl, d2, h1, h2⟩
          refine ⟨_, ?_, cs2, mv, v4, v5, rfl, d2, h1, rfl⟩
          cases mv with
          | false => rw [if_neg Bool.false_ne_true, if_pos rfl]; lia
          | true =>
            rw [if_pos rfl, if_pos rfl]
            have := h2 rfl
            have := d2.rc.sum
            lia
        -- for hand, row in enumerate(rows)
        refine ⟨_, rfl, a, rfl, ⟨_, SqL.of (d.same _ _ hR.top)⟩, for_enum (K := K) (a := a) (xs := ps.map V.ref) (inv_done_2 a sd c H rs cs)
          ⟨cs, false, _, _, rfl, d, fun _ => ⟨rfl, fun h z => absurd z (Nat.not_lt_zero _)⟩, fun z => (nomatch z)⟩ (fun i σ H3 _ ⟨_, _, _, _, _, d3, _⟩ => SqL.of (d3.same _ _ hR.top)) ?_ ?_⟩
        · rintro i y σ H3 pe hi ⟨cs2, mv, v4, v5, rfl, d3, h1, h2⟩ hpe
          obtain ⟨p, hp, rfl⟩ := map_ref hi
          obtain ⟨r, hr', xs, hx, m⟩ := hR.get hp
          refine ⟨pe, _, rfl, SqT.of upd_same, rfl, _, _, rfl, _, _, rfl, rfl, ?_⟩
          -- while counts[hand] < len(row) and can_be_done(..)
          refine ⟨fun m σ H4 => ∃ cs3 mv, σ = [some (.ref a), some (.ref sd), some (.ref c), some (.bl mv), some (.int (i : Nat)), some (.ref p)] ∧ DoneI H H4 c cs3 rs ∧ (mv = false → cs3 = cs ∧ ∀ h, h < i → StuckAt rs cs h) ∧ (mv = true → cs.sum < cs3.sum) ∧ cs.sum ≤ cs3.sum ∧ m = (rs.map List.length).sum - cs3.sum,
            ⟨_, cs2, mv, rfl, d3.new hpe, h1, h2, ?_, rfl⟩, ?_⟩
          · cases mv with
            | false => rw [(h1 rfl).1]; exact Nat.le_refl _
            | true => exact Nat.le_of_lt (h2 rfl)
          clear h1 h2 d3
          rintro m2 σ H4 ⟨cs3, mv, rfl, d4, h1, h2, h3, rfl⟩
          have hil : i < cs3.length := by rw [d4.rc.len]; exact (List.getElem?_eq_some_iff.mp hr').1
          have hci : cs3[i]? = some cs3[i] := List.getElem?_eq_getElem hil
          have hx4 := d4.same _ _ hx
          have hle := d4.rc.le i _ r hci hr'
          have hxl : xs.length = r.length := Paired.length m
          -- what the for wants behind
          have out : StuckAt rs cs3 i → (∃ cs2 mv_1 v4 v5, [some (V.ref a), some (.ref sd), some (.ref c), some (.bl mv), some (.int (i : Nat)), some (.ref p)] = [some (.ref a), some (.ref sd), some (.ref c), some (.bl mv_1), v4, v5] ∧ DoneI H H4 c cs2 rs ∧ (mv_1 = false → cs2 = cs ∧ ∀ h, h < i + 1 → StuckAt rs cs h) ∧ (mv_1 = true → cs.sum < cs2.sum)) := fun st =>
            ⟨cs3, mv, _, _, rfl, d4, fun z => ⟨(h1 z).1, fun h hh => by
              by_cases e : h = i
              · rw [e, ← (h1 z).1]; exact st
              · exact (h1 z).2 h (by lia)⟩, h2⟩
          refine ⟨_, rfl, _, rfl, c, _, _, _, rfl, rfl, SqL.of d4.hc, csV_get hci, _, rfl, p, xs, rfl, .inl (SqL.of hx4), _, _, rfl, rfl, _, rfl, ?_⟩
          refine ite2 (fun hlt => ?_) (fun hlt => ?_)
          · have hlt : ((cs3[i] : Nat) : Int) < ((xs.length : Nat) : Int) := of_decide_eq_true hlt
            have hlr : cs3[i] < r.length := by lia
            have her : r[cs3[i]]? = some r[cs3[i]] := List.getElem?_eq_getElem hlr
            have hat : at? rs i cs3[i] = some r[cs3[i]] := by rw [at_row hr']; exact her
            obtain ⟨x, hxx, t, rfl, ht⟩ := Paired.getR m her
            refine ⟨_, rfl, _, rfl, _, rfl, c, _, _, _, rfl, rfl, SqL.of d4.hc, csV_get hci, p, xs, _, .ref t, rfl, rfl, SqL.of hx4, atI_nat hxx, _, rfl, _, rfl, ?_⟩
            refine ⟨t, sd, c, _, cs3, rs, rfl, d4.same _ _ ht, hSk _ d4.same, d4.hc, d4.rc.len, hU, fun hk => hT i _ _ hat hk, fun b hb => ⟨b, rfl, ?_⟩⟩
            cases b with
            | false =>
              refine iteF ?_
              refine out fun c' e' hc' he' fr => ?_
              rw [hci] at hc'; cases hc'
              rw [hat] at he'; cases he'
              exact absurd (hb.mpr fr) Bool.false_ne_true
            | true =>
              refine iteT ?_
              refine ⟨_, fun σ' H' z => z, ?_⟩
              refine ⟨_, rfl, _, rfl, c, _, _, _, rfl, rfl, SqL.of d4.hc, Int.natCast_nonneg _, csV_get hci, _, _, rfl, rfl, c, _, _, i, rfl, rfl, d4.hc, ixN_nat (by unfold csV; rw [List.length_map]; exact hil), ?_⟩
              have fr := hb.mp rfl
              have d5 := d4.step hc hci hat fr
              have es := sum_set hci
              have hs5 := d5.rc.sum
              exact ⟨_, by lia, _, true, rfl, d5, fun z => (nomatch z), fun _ => by lia, by lia, rfl⟩
          · refine iteF ?_
            refine out fun c' e' hc' he' fr => ?_
            rw [hci] at hc'; cases hc'
            rw [at_row hr'] at he'
            have := (List.getElem?_eq_some_iff.mp he').1
            exact hlt (decide_eq_true (by show ((cs3[i] : Nat) : Int) < ((xs.length : Nat) : Int); lia))
        · rintro σ H3 ⟨cs2, mv, v4, v5, rfl, d3, h1, h2⟩
          refine ⟨cs2, mv, v4, v5, rfl, d3, fun z => ?_, h2⟩
          obtain ⟨e, st⟩ := h1 z
          subst e
          intro h c' e' hc' he'
          refine st h ?_ c' e' hc' he'
          rw [List.length_map, hR.len, ← d3.rc.len]
          exact (List.getElem?_eq_some_iff.mp hc').1
noncomputable def inv_noring_1 (H1 : L2.Hp) (a : PySem.Addr) (sd : PySem.Addr) (c : PySem.Addr) : Nat → St → Hp → Prop := fun i σ H3 => Same H1 H3 ∧ ∃ v4 v5, σ = [some (.ref a), some (.ref sd), some (.ref c), v4, v5]
theorem ok_noring {f : Addr} {fd : FuncData} (F : Fun K "find_ring" "find_ring" s_find_ring f fd) (B : Bl mg) (D_counts_done : Df P w K mg base 2 "counts_done" ["rows", "sends"] sp_done) : FnOk P w K mg base CX0 3 f fd ["rows", "sends"] sp_noring := by
  have sc := sc_find_ring
  refine F.ok sc (fun vs H Q E h => ?_) (fun cdv A outer s H vs Q E hr h => ?_)
  · obtain ⟨a, sd, ps, rs, rfl, _⟩ := h
    rfl
  · obtain ⟨a, sd, ps, rs, rfl, hR, hS, hV, q⟩ := h
    refine ⟨_, (pss_cons (ps_set (i := 2) sc.nd rfl (Or.inl rfl) (pe_df D_counts_done (hr.mono (by decide)) (pa_cons (pv 0) (pa_cons (pv 1) pa_nil))))
       (pss_cons (ps_for PassesOwn.never rfl (pi_enum rfl (B "enumerate" (by decide +kernel)) (pv 0)) (pg_tup rfl (pgs_cons (pg_name (i := 3) sc.nd rfl (Or.inl rfl)) (pgs_cons (pg_name (i := 4) sc.nd rfl (Or.inl rfl)) pgs_nil))) (pss_one (ps_if (pt_cmpR op_lt (pe_ix ix_list (pv 2) (pv 3) (fun _ _ => rfl)) (pe_callB call_len_seqI (by rfl) (B "len" (by decide +kernel)) bt_len (pa_cons (pv 4) pa_nil)) (nomark _)) (pss_one ps_never) pss_nil)))
       (pss_one (ps_ret pe_non)))), ?_⟩
    refine ⟨_, rfl, _, rfl, a, sd, ps, rs, rfl, hR, hS, hV.us, hV.sent, by have := hV.bnd.hi; lia, fun c cs H1 s1 hc0 hc rc st => ?_⟩
    obtain ⟨rk, o⟩ := hV.ord
    have ecs := st.done rc o
    refine ⟨_, rfl, a, rfl, ⟨_, SqL.of (s1 _ _ hR.top)⟩, for_enum (K := K) (a := a) (xs := ps.map V.ref) (inv_noring_1 H1 a sd c)
      ⟨Same.refl _, _, _, rfl⟩ (fun i σ H3 _ ⟨s3, _⟩ => SqL.of (s3 _ _ (s1 _ _ hR.top))) ?_ ?_⟩
    · rintro i y σ H3 pe hi ⟨s3, v4, v5, rfl⟩ hpe
      obtain ⟨p, hp, rfl⟩ := map_ref hi
      obtain ⟨r, hr', xs, hx, m⟩ := hR.get hp
      have s4 := s3.trans (Same.new (o := .tup [.int (i : Nat), .ref p]) hpe)
      have hci : cs[i]? = some r.length := by rw [ecs, List.getElem?_map, hr']; rfl
      refine ⟨pe, _, rfl, SqT.of upd_same, rfl, _, _, rfl, _, _, rfl, rfl, ?_⟩
      refine ⟨_, rfl, _, rfl, c, _, _, _, rfl, rfl, SqL.of (s4 _ _ hc), csV_get hci, _, rfl, p, xs, rfl, .inl (SqL.of (s4 _ _ (s1 _ _ hx))), _, _, rfl, rfl, _, rfl, ?_⟩
      refine ite2 (fun hlt => ?_) (fun hlt => ?_)
      · have hlt : ((r.length : Nat) : Int) < ((xs.length : Nat) : Int) := of_decide_eq_true hlt
        have := Paired.length m
        lia
      · exact ⟨s4, _, _, rfl⟩
    · rintro σ H3 ⟨s3, v4, v5, rfl⟩
      exact q H3 (s1.trans s3)
end
end Cw

set_option Elab.async false
set_option linter.all false
set_option maxRecDepth 100000
set_option maxHeartbeats 4000000
namespace Cw
open PySem L2
noncomputable abbrev s_Record_init : Stmt := inClass (top 8) 0
theorem sc_Record_init : FnScope ["self", "rows", "ring"] ["self", "rows"] (defScope s_Record_init) := ⟨rfl, rfl, rfl, by decide +kernel, rfl, by decide +kernel, by decide +kernel⟩


section
variable {P : Program} {w : World} {K : PySem.W.Frag} {mg : Str → Option Value} {base : Heap}
noncomputable def inv_init_1 (H : L2.Hp) (D : PySem.Addr) (rs : Cw.Rows) : Nat → St → List V → Hp → Prop := fun i σ ys H2 => ∃ (qs : List Addr) (v : Option V), σ = [v] ∧ ys = qs.map V.ref ∧ Same H H2 ∧ H2 D = some (.lst (qs.map V.ref)) ∧ Paired (RowA H2) qs (rs.take i) ∧ (∀ q ∈ qs, H q = none) ∧ qs.Nodup ∧ D ∉ qs
theorem ok_init {f C : Addr} {fd : FuncData} (F : Fun K "__init__" "Record.__init__" s_Record_init f fd) (B : Bl mg) (R : RecC K C) (D_letter_places : Df P w K mg base 1 "letter_places" ["rows", "kind"] sp_places) (D_check_sent : Df P w K mg base 1 "check_sent" ["sends", "takes"] sp_check)
    (D_find_ring : Df P w K mg base 3 "find_ring" ["rows", "sends"] sp_noring) : FnOk P w K mg base CX0 4 f fd ["self", "rows"] (sp_init C) := by
  have sc := sc_Record_init
  refine F.ok sc (fun vs H Q E h => ?_) (fun cdv A outer s H vs Q E hr h => ?_)
  · obtain ⟨x, dx, a, ps, rs, rfl, _⟩ := h
    rfl
  · obtain ⟨x, dx, a, ps, rs, rfl, hX, hR, hV, q⟩ := h
    refine ⟨_, (pss_cons (ps_fld (pv 0) (pe_lc (te := (tCB (rListOf K) (tCons (tVar 0) tNil))) (tt := tTrue) (Blk.plain (ts := ["row"]) (by decide +kernel) (by decide +kernel) rfl (by decide +kernel)) rfl (pi_list (pv 1)) (fun _ _ _ _ => (pg_name (i := 0) (show List.Nodup (["row"] : List Str) by decide +kernel) rfl (Or.inl rfl))) (fun _ _ _ _ => pifs_nil) (fun _ _ _ _ => (pe_callTy call_list_ofI (by rfl) (B "list" (by decide +kernel)) bt_list (pa_cons (pv 0) pa_nil)))) rfl)
       (pss_cons (ps_fld (pv 0) (pe_df D_letter_places (hr.mono (by decide)) (pa_cons (pe_fld (pv 0) rfl) (pa_cons pe_str pa_nil))) rfl)
       (pss_cons (ps_fld (pv 0) (pe_df D_letter_places (hr.mono (by decide)) (pa_cons (pe_fld (pv 0) rfl) (pa_cons pe_str pa_nil))) rfl)
       (pss_cons (ps_expr (pe_df D_check_sent (hr.mono (by decide)) (pa_cons (pe_fld (pv 0) rfl) (pa_cons (pe_fld (pv 0) rfl) pa_nil))))
       (pss_cons (ps_set (i := 2) sc.nd rfl (Or.inl rfl) (pe_df D_find_ring (hr.mono (by decide)) (pa_cons (pe_fld (pv 0) rfl) (pa_cons (pe_fld (pv 0) rfl) pa_nil))))
       (pss_one (ps_if (pt_cmpR op_notN (pv 2) pe_non (nomark _)) (pss_one ps_never) pss_nil))))))), ?_⟩
    refine ⟨_, rfl, a, rfl, ⟨_, SqL.of hR.top⟩, fun D hD => lc_list (K := K) (a := a) (xs := ps.map V.ref) (inv_init_1 H D rs)
      ⟨[], _, rfl, rfl, Same.new hD, upd_same, .nil, fun q hq => (nomatch hq), List.nodup_nil, fun z => (nomatch z)⟩ (fun i σ ys H2 _ ⟨qs, v, _, _, s2, _⟩ => SqL.of (s2 _ _ hR.top)) ?_ ?_⟩
    · rintro i y σ ys H2 hi ⟨qs, v, rfl, rfl, s2, hD2, hq, hn, nd, nD⟩
      obtain ⟨p, hp, rfl⟩ := map_ref hi
      obtain ⟨r, hr', xs, hx, m⟩ := hR.get hp
      refine ⟨_, rfl, p, xs, rfl, .inl (SqL.of (s2 _ _ hx)), fun l hl => ?_⟩
      obtain ⟨c1, c2, c3, c4, c5, c6⟩ := copy_step s2 hD hD2 hq hn nd nD hr' m hl
      refine ⟨by rw [upd_ne (by rintro rfl; rw [hl] at hD2; cases hD2)]; exact hD2, ?_, qs ++ [l], _, rfl, by simp, ?_⟩
      · have e := Paired.length hq
        have := hV.bnd.hi
        rw [List.length_map, e, List.length_take]
        exact small1000 (by lia)
      · rw [List.map_append] at c1 c2 c3 ⊢
        exact ⟨c1, c2, c3, c4, c5, c6⟩
    · rintro σ ys H2 ⟨qs, v, rfl, rfl, s2, hD2, hq, hn, nd, nD⟩
      have e : rs.take (ps.map V.ref).length = rs := by rw [List.length_map, hR.len, List.take_length]
      rw [e] at hq
      have hX2 := s2 _ _ hX
      have xD : x ≠ D := ne_of_none hX hD
      have xq : ∀ q ∈ qs, ¬ q = x := fun q hq' z => by
        have := hn q hq'
        rw [z, hX] at this
        cases this
      refine ⟨_, rfl, x, C, dx, [], rfl, hX2, R.cl, R.nR, (by show 0 < 1000; decide), ?_⟩
      rw [put1]
      have nx2 : NoTup (fun b => b = x) H2 := fun b xs hb z => by rw [hb, hX2] at z; cases z
      have R2 : RowsA H2 D qs rs := ⟨hD2, hq⟩
      have k3 : Kept (fun b => b = x) H2 (L2.upd H2 x (.ins C dx [(("rows" : Str), V.ref D)])) := Kept.upd rfl
      have R3 := R2.keep k3 nx2 (fun z => xD z.symm) xq
      generalize hG : L2.upd H2 x (.ins C dx [(("rows" : Str), V.ref D)]) = H3 at k3 R3
      have hX3 : H3 x = some (.ins C dx [(("rows" : Str), V.ref D)]) := by rw [← hG]; exact upd_same
      have K3 : Kept (fun b => b = x) H H3 := (Same.kept s2).trans k3
      -- self.sends
      refine ⟨_, rfl, x, C, dx, _, _, rfl, hX3, R.cl, R.nR, lk_one, D, qs, rs, .send, rfl, R3, hV.us, hV.bnd, fun sd skvs H4 s4 hsd0 hsd hsm => ?_⟩
      have hX4 := s4 _ _ hX3
      have xsd : x ≠ sd := ne_of_none hX3 hsd0
      refine ⟨_, rfl, x, C, dx, _, rfl, hX4, R.cl, R.nS, (by show 1 < 1000; decide), ?_⟩
      rw [put2]
      have nx4 : NoTup (fun b => b = x) H4 := fun b xs hb z => by rw [hb, hX4] at z; cases z
      have k5 : Kept (fun b => b = x) H4 (L2.upd H4 x (.ins C dx [(("rows" : Str), V.ref D), (("sends" : Str), V.ref sd)])) := Kept.upd rfl
      have R5 := (R3.same s4).keep k5 nx4 (fun z => xD z.symm) xq
      have hsd5 : L2.upd H4 x (.ins C dx [(("rows" : Str), V.ref D), (("sends" : Str), V.ref sd)]) sd = some (.dK skvs) := by rw [upd_ne (Ne.symm xsd)]; exact hsd
      have hsm5 := Paired.mapP hsm fun x y z => z.keep k5 nx4
      generalize hG5 : L2.upd H4 x (.ins C dx [(("rows" : Str), V.ref D), (("sends" : Str), V.ref sd)]) = H5 at k5 R5 hsd5 hsm5
      have hX5 : H5 x = some (.ins C dx [(("rows" : Str), V.ref D), (("sends" : Str), V.ref sd)]) := by rw [← hG5]; exact upd_same
      have K5 : Kept (fun b => b = x) H H5 := (K3.trans (Same.kept s4)).trans k5
      have sd0 : H sd = none := by
        cases z : H sd with
        | none => rfl
        | some o =>
          have := K3 _ _ z (Ne.symm xsd)
          rw [hsd0] at this
          cases this
      -- self.takes
      refine ⟨_, rfl, x, C, dx, _, _, rfl, hX5, R.cl, R.nR, lk_one, D, qs, rs, .take, rfl, R5, hV.ut, hV.bnd, fun td tkvs H6 s6 htd0 htd htm => ?_⟩
      have hX6 := s6 _ _ hX5
      have xtd : x ≠ td := ne_of_none hX5 htd0
      refine ⟨_, rfl, x, C, dx, _, rfl, hX6, R.cl, R.nT, (by show 2 < 1000; decide), ?_⟩
      rw [put3]
      have nx6 : NoTup (fun b => b = x) H6 := fun b xs hb z => by rw [hb, hX6] at z; cases z
      have k7 : Kept (fun b => b = x) H6 (L2.upd H6 x (.ins C dx (recF D sd td))) := Kept.upd rfl
      have R7 := (R5.same s6).keep k7 nx6 (fun z => xD z.symm) xq
      have hsd7 : L2.upd H6 x (.ins C dx (recF D sd td)) sd = some (.dK skvs) := by rw [upd_ne (Ne.symm xsd)]; exact s6 _ _ hsd5
      have htd7 : L2.upd H6 x (.ins C dx (recF D sd td)) td = some (.dK tkvs) := by rw [upd_ne (Ne.symm xtd)]; exact htd
      have hsm7 := Paired.mapP hsm5 fun x y z => (z.keep (S := fun _ => False) (fun b o e _ => s6 b o e) (fun _ _ z => z.elim)).keep k7 nx6
      have htm7 := Paired.mapP htm fun x y z => z.keep k7 nx6
      generalize hG7 : L2.upd H6 x (.ins C dx (recF D sd td)) = H7 at k7 R7 hsd7 htd7 hsm7 htm7
      have hX7 : H7 x = some (.ins C dx (recF D sd td)) := by rw [← hG7]; exact upd_same
      have K7 : Kept (fun b => b = x) H H7 := (K5.trans (Same.kept s6)).trans k7
      have td0 : H td = none := by
        cases z : H td with
        | none => rfl
        | some o =>
          have := K5 _ _ z (Ne.symm xtd)
          rw [htd0] at this
          cases this
      have sdtd : sd ≠ td := by rintro rfl; rw [hsd5] at htd0; cases htd0
      -- check_sent
      refine ⟨_, rfl, x, C, dx, _, _, rfl, hX7, R.cl, R.nS, rec_sends _ _ _, _, rfl, x, C, dx, _, _, rfl, hX7, R.cl, R.nT, rec_takes _ _ _, sd, td, skvs, tkvs, rfl, hsd7, htd7, sdtd, taken_sent hV hsm7 htm7, fun o => ?_⟩
      have nt7 : NoTup (fun b => b = td) H7 := fun b xs hb z => by rw [hb, htd7] at z; cases z
      have k8 : Kept (fun b => b = td) H7 (L2.upd H7 td (.frz o (.dK tkvs))) := Kept.upd rfl
      have tdD : ¬ D = td := fun z => by have := R7.top; rw [z, htd7] at this; cases this
      have tdq : ∀ q ∈ qs, ¬ q = td := fun q hq' z => by
        obtain ⟨i, hi⟩ := List.getElem?_of_mem hq'
        obtain ⟨r, _, xs, hx, _⟩ := R7.get hi
        rw [z, htd7] at hx
        cases hx
      have R8 := R7.keep k8 nt7 tdD tdq
      have S8 : SendsA (L2.upd H7 td (.frz o (.dK tkvs))) sd rs := ⟨skvs, .inl (by rw [upd_ne sdtd]; exact hsd7), Paired.mapP hsm7 fun x y z => z.keep k8 nt7⟩
      have T8 : TakesA (L2.upd H7 td (.frz o (.dK tkvs))) td rs := ⟨tkvs, .inr ⟨o, upd_same⟩, Paired.mapP htm7 fun x y z => z.keep k8 nt7⟩
      have hX8 : L2.upd H7 td (.frz o (.dK tkvs)) x = some (.ins C dx (recF D sd td)) := by rw [upd_ne xtd]; exact hX7
      have K8 : Kept (fun b => b = x) H (L2.upd H7 td (.frz o (.dK tkvs))) := fun b u z nb => by
        rw [upd_ne (ne_of_none z td0)]
        exact K7 b u z nb
      -- find_ring
      refine ⟨_, rfl, x, C, dx, _, _, rfl, hX8, R.cl, R.nR, rec_rows _ _ _, _, rfl, x, C, dx, _, _, rfl, hX8, R.cl, R.nS, rec_sends _ _ _, D, sd, qs, rs, rfl, R8, S8, hV, fun H9 s9 => ?_⟩
      refine ⟨_, rfl, rfl, _, rfl, ?_⟩
      refine iteNS rfl ?_
      exact q D qs sd td H9 (K8.trans (Same.kept s9)) (RecA.same s9 ⟨⟨dx, hX8⟩, R8, S8, T8, hV⟩) hD hn sd0 td0
end
end Cw

set_option Elab.async false
set_option linter.all false
set_option maxRecDepth 100000
set_option maxHeartbeats 4000000
namespace Cw
open PySem L2
noncomputable abbrev s_law_record : Stmt := top 38
theorem sc_law_record : FnScope ["script", "most", "hands", "rows", "letters", "sent", "k", "cell", "hand", "kind", "value"] ["script", "most"] (defScope s_law_record) := ⟨rfl, rfl, rfl, by decide +kernel, rfl, by decide +kernel, by decide +kernel⟩

section
variable {P : Program} {w : World} {K : PySem.W.Frag} {mg : Str → Option Value} {base : Heap}
noncomputable def inv_record_1 (H : L2.Hp) (D : PySem.Addr) (hands : Int) : Nat → St → List V → Hp → Prop := fun i σ ys H2 => ∃ (qs : List Addr) (v : Option V), σ = [v] ∧ ys = qs.map V.ref ∧ Same H H2 ∧ H2 D = some (.lst (qs.map V.ref)) ∧ Paired (RowA H2) qs ((List.replicate hands.toNat ([] : List Ev)).take i) ∧ (∀ q ∈ qs, H q = none) ∧ qs.Nodup ∧ D ∉ qs
noncomputable def inv_record_2 (a : PySem.Addr) (m : Nat) (hands : Int) (D : PySem.Addr) (lb : PySem.Addr) (H : L2.Hp) (qs : List PySem.Addr) : Nat → St → Hp → Prop := fun i σ H3 => ∃ rs ls snt v6 v7 v8 v9 v10, σ = [some (.ref a), some (.int (m : Nat)), some (.int hands), some (.ref D), some (.ref lb), some (.int snt), v6, v7, v8, v9, v10] ∧ RecI H H3 D lb qs rs ls i ∧ rs.length = hands.toNat
theorem ok_record {f : Addr} {fd : FuncData} (F : Fun K "_law_record" "_law_record" s_law_record f fd) (B : Bl mg) (D_law_cell_at : Df P w K mg base 1 "_law_cell_at" ["script", "k"] (sp_cell K)) (D_law_draw : Df P w K mg base 2 "_law_draw" ["script", "k"] (sp_draw K))
    (D_law_value : Df P w K mg base 3 "_law_value" ["script", "k"] (sp_value K)) (D_law_used : Df P w K mg base 1 "_law_used" ["rows", "letter"] sp_used) : FnOk P w K mg base CX0 4 f fd ["script", "most"] (sp_record K) := by
  have sc := sc_law_record
  refine F.ok sc (fun vs H Q E h => ?_) (fun cdv A outer s H vs Q E hr h => ?_)
  · obtain ⟨a, ns, m, rfl, _⟩ := h
    rfl
  · obtain ⟨a, ns, m, rfl, hS, hm, q⟩ := h
    have hu := hu_of hr
    refine ⟨_, (pss_cons (ps_set (i := 2) sc.nd rfl (Or.inl rfl) (pe_op op_add pe_int (pe_op op_mod (pe_df D_law_cell_at (hr.mono (by decide)) (pa_cons (pv 0) (pa_cons pe_int pa_nil))) pe_int)))
       (pss_cons (ps_setLC (i := 3) sc.nd rfl (Or.inl rfl) (te := (tLst tNil)) (tt := tTrue) (Blk.plain (ts := ["hand"]) (by decide +kernel) (by decide +kernel) rfl (by decide +kernel)) rfl (pi_range1 rfl (B "range" (by decide +kernel)) (pa_cons (pv 2) pa_nil)) (fun _ _ _ _ => (pg_name (i := 0) (show List.Nodup (["hand"] : List Str) by decide +kernel) rfl (Or.inl rfl))) (fun _ _ _ _ => pifs_nil) (fun _ _ _ _ => (pe_lst pa_nil)))
       (pss_cons (ps_set (i := 4) sc.nd rfl (Or.inl rfl) (pe_lst pa_nil))
       (pss_cons (ps_set (i := 5) sc.nd rfl (Or.inl rfl) pe_int)
       (pss_cons (ps_for PassesOwn.never rfl (pi_range1 rfl (B "range" (by decide +kernel)) (pa_cons (pe_op op_mod (pe_df D_law_draw (hr.mono (by decide)) (pa_cons (pv 0) (pa_cons pe_int pa_nil))) (pe_op op_add (pv 1) pe_int)) pa_nil)) (pg_name (i := 6) sc.nd rfl (Or.inl rfl)) (pss_cons (ps_set (i := 7) sc.nd rfl (Or.inl rfl) (pe_df D_law_draw (hr.mono (by decide)) (pa_cons (pv 0) (pa_cons (pe_op op_add pe_int (pe_op op_mul pe_int (pv 6))) pa_nil))))
       (pss_cons (ps_set (i := 8) sc.nd rfl (Or.inl rfl) (pe_op op_mod (pv 7) (pv 2)))
       (pss_cons (ps_set (i := 9) sc.nd rfl (Or.inl rfl) (pe_ix ix_list (pe_lst (pa_cons pe_str (pa_cons pe_str (pa_cons pe_str (pa_cons pe_str pa_nil))))) (pe_op op_mod (pe_op op_fdiv (pv 7) pe_int) pe_int) (fun _ _ => rfl)))
       (pss_cons (ps_set (i := 10) sc.nd rfl (Or.inl rfl) (pe_df D_law_value (hr.mono (by decide)) (pa_cons (pv 0) (pa_cons (pe_op op_add pe_int (pe_op op_mul pe_int (pv 6))) pa_nil))))
       (pss_one (ps_if ((pw_and (pt_cmpR op_lt (pe_callB call_len_seqI (by rfl) (B "len" (by decide +kernel)) bt_len (pa_cons (pe_ix ix_list (pv 3) (pv 8) (fun _ _ => rfl)) pa_nil)) pe_int (nomark _)) (pw_and1 (pt_cmpR op_eq (pv 9) pe_str (nomark _))))).pt (pss_cons (ps_expr (pe_bm PySem.F.plainAttrs_list PySem.F.slot_list_append PySem.F.type_list_append mt_append (pv 4) (pa_cons (pe_op op_mod (pe_op op_add (pe_op op_mul pe_int (pv 5)) (pe_op op_fdiv (pv 7) pe_int)) pe_int) pa_nil)))
       (pss_cons (ps_set (i := 5) sc.nd rfl (Or.inl rfl) (pe_op op_add (pv 5) pe_int))
       (pss_one (ps_if ((pw_or (pt_cmpR op_gt (pe_bm PySem.F.plainAttrs_list PySem.F.slot_list_count PySem.F.type_list_count (mt_count EqOk.flat (un_of hr)) (pv 4) (pa_cons (pe_ix ix_list (pv 4) (pe_un un_neg pe_int) (fun _ _ => rfl)) pa_nil)) pe_int (nomark _)) (pw_or1 (pt_val (pe_df D_law_used (hr.mono (by decide)) (pa_cons (pv 3) (pa_cons (pe_ix ix_list (pv 4) (pe_un un_neg pe_int) (fun _ _ => rfl)) pa_nil))))))).pt (pss_cons (ps_expr (pe_bm0 PySem.F.plainAttrs_list PySem.F.slot_list_pop PySem.F.type_list_pop mt_pop (pv 4)))
       (pss_one (ps_expr (pe_bm PySem.F.plainAttrs_list PySem.F.slot_list_append PySem.F.type_list_append mt_append (pe_ix ix_list (pv 3) (pv 8) (fun _ _ => rfl)) (pa_cons (pe_tup (pa_cons pe_str (pa_cons pe_int (pa_cons (pv 10) pa_nil)))) pa_nil))))) (pss_one (ps_expr (pe_bm PySem.F.plainAttrs_list PySem.F.slot_list_append PySem.F.type_list_append mt_append (pe_ix ix_list (pv 3) (pv 8) (fun _ _ => rfl)) (pa_cons (pe_tup (pa_cons pe_str (pa_cons (pe_ix ix_list (pv 4) (pe_un un_neg pe_int) (fun _ _ => rfl)) (pa_cons (pv 10) pa_nil)))) pa_nil)))))))) (pss_one (ps_if ((pw_and (pt_cmpR op_lt (pe_callB call_len_seqI (by rfl) (B "len" (by decide +kernel)) bt_len (pa_cons (pe_ix ix_list (pv 3) (pv 8) (fun _ _ => rfl)) pa_nil)) pe_int (nomark _)) (pw_and (pt_cmpR op_eq (pv 9) pe_str (nomark _)) (pw_and1 (pt_cmpR op_gt (pe_callB call_len_seqI (by rfl) (B "len" (by decide +kernel)) bt_len (pa_cons (pv 4) pa_nil)) pe_int (nomark _)))))).pt (pss_one (ps_expr (pe_bm PySem.F.plainAttrs_list PySem.F.slot_list_append PySem.F.type_list_append mt_append (pe_ix ix_list (pv 3) (pv 8) (fun _ _ => rfl)) (pa_cons (pe_tup (pa_cons pe_str (pa_cons (pe_bm PySem.F.plainAttrs_list PySem.F.slot_list_pop PySem.F.type_list_pop mt_popAt (pv 4) (pa_cons (pe_op op_mod (pe_op op_fdiv (pv 7) pe_int) (pe_callB call_len_seqI (by rfl) (B "len" (by decide +kernel)) bt_len (pa_cons (pv 4) pa_nil))) pa_nil)) (pa_cons (pv 10) pa_nil)))) pa_nil)))) (pss_one (ps_if (pt_cmpR op_lt (pe_callB call_len_seqI (by rfl) (B "len" (by decide +kernel)) bt_len (pa_cons (pe_ix ix_list (pv 3) (pv 8) (fun _ _ => rfl)) pa_nil)) pe_int (nomark _)) (pss_one (ps_expr (pe_bm PySem.F.plainAttrs_list PySem.F.slot_list_append PySem.F.type_list_append mt_append (pe_ix ix_list (pv 3) (pv 8) (fun _ _ => rfl)) (pa_cons (pe_tup (pa_cons pe_str (pa_cons pe_int (pa_cons (pv 10) pa_nil)))) pa_nil)))) pss_nil)))))))))))
       (pss_one (ps_ret (pv 3)))))))), ?_⟩
    -- hands
    refine ⟨_, rfl, a, ns, 0, rfl, hS, by decide, _, _, rfl, rfl, (by show (0 : Int) < 4; decide), _, _, rfl, rfl, ?_⟩
    have hh0 := Int.emod_nonneg (cell ns 0) (show (4 : Int) ≠ 0 by decide)
    have hh1 := Int.emod_lt_of_pos (cell ns 0) (show (0 : Int) < 4 by decide)
    try dsimp only
    generalize hhd : (1 : Int) + cell ns 0 % 4 = hands
    have hha : 1 ≤ hands := by lia
    have hhb : hands ≤ 4 := by lia
    clear hh0 hh1 hhd
    -- rows
    refine ⟨_, rfl, _, rfl, by lia, by lia, fun D hD => lc_range (lo := 0) (n := hands.toNat) (inv_record_1 H D hands)
      ⟨[], _, rfl, rfl, Same.new hD, upd_same, .nil, fun q hq => (nomatch hq), List.nodup_nil, fun z => (nomatch z)⟩ ?_ ?_⟩
    · rintro i σ ys H2 hi ⟨qs, v, rfl, rfl, s2, hD2, hq, hn, nd, nD⟩
      refine ⟨Nat.zero_le _, fun l hl => ?_⟩
      obtain ⟨c1, c2, c3, c4, c5, c6⟩ := copy_step (xs := []) (r := []) s2 hD hD2 hq hn nd nD (by rw [List.getElem?_replicate, if_pos hi]) .nil hl
      refine ⟨by rw [upd_ne (by rintro rfl; rw [hl] at hD2; cases hD2)]; exact hD2, ?_, qs ++ [l], _, rfl, by simp, ?_⟩
      · have e := Paired.length hq
        rw [List.length_map, e, List.length_take, List.length_replicate]
        exact small1000 (by lia)
      · rw [List.map_append] at c1 c2 c3 ⊢
        exact ⟨c1, c2, c3, c4, c5, c6⟩
    rintro σ ys H2 ⟨qs, v, rfl, rfl, s2, hD2, hq, hn, nd, nD⟩
    have e : (List.replicate hands.toNat ([] : List Ev)).take hands.toNat = List.replicate hands.toNat [] := List.take_of_length_le (by rw [List.length_replicate]; exact Nat.le_refl _)
    rw [e] at hq
    -- letters, sent
    refine ⟨Nat.zero_le _, fun lb hlb2 => ?_⟩
    have hlb : H lb = none := s2.free hlb2
    have lD : lb ≠ D := by rintro rfl; rw [hlb2] at hD2; cases hD2
    have lq : lb ∉ qs := fun z => by
      obtain ⟨i, hi⟩ := List.getElem?_of_mem z
      obtain ⟨r, _, xs, hx, _⟩ := Paired.get hq hi
      rw [hlb2] at hx; cases hx
    have d0 : RecI H (L2.upd H2 lb (.lst [])) D lb qs (List.replicate hands.toNat []) [] 0 :=
      ⟨s2.trans (Same.new hlb2), (RowsA.mk hD2 hq).same (Same.new hlb2), upd_same, ⟨0, Draw.start (by lia) (by lia)⟩, by simp, Nat.le_refl _⟩
    -- the loop
    have hdr := draw_nn ns 1
    have hk0 := Int.emod_nonneg (draw ns 1) (show ((m : Nat) : Int) + 1 ≠ 0 by lia)
    have hk1 := Int.emod_lt_of_pos (draw ns 1) (show (0 : Int) < ((m : Nat) : Int) + 1 by lia)
    refine ⟨_, rfl, a, ns, 1, rfl, (s2.trans (Same.new hlb2)).seq hS, by decide, _, rfl, _, _, rfl, rfl, _, _, rfl, rfl, (by show (0 : Int) < ((m : Nat) : Int) + 1; lia), _, rfl, by lia, by lia,
      for_range (lo := 0) (n := (draw ns 1 % (((m : Nat) : Int) + 1)).toNat) (inv_record_2 a m hands D lb H qs)
      ⟨_, [], 0, _, _, _, _, _, rfl, d0, List.length_replicate⟩ ?_ ?_⟩
    · rintro i σ H3 hi ⟨rs, ls, snt, v6, v7, v8, v9, v10, rfl, d, hl⟩
      -- cell
      refine ⟨_, rfl, _, rfl, _, _, rfl, rfl, .inl ⟨by decide, by decide⟩, _, _, rfl, rfl, a, ns, _, rfl, d.same.seq hS, (by show (0 : Int) ≤ 10 + 3 * (0 + ((i : Nat) : Int)); lia), ?_⟩
      try dsimp only
      generalize hc : draw ns (10 + 3 * (0 + ((i : Nat) : Int))) = c
      have hc0 : 0 ≤ c := by rw [← hc]; exact draw_nn _ _
      clear hc
      -- hand
      refine ⟨_, rfl, _, rfl, _, _, rfl, rfl, (by show (0 : Int) < hands; lia), ?_⟩
      have hx0 := Int.emod_nonneg c (show hands ≠ 0 by lia)
      have hx1 := Int.emod_lt_of_pos c (show (0 : Int) < hands by lia)
      obtain ⟨hn', hhn⟩ : ∃ n : Nat, c % hands = ((n : Nat) : Int) := ⟨(c % hands).toNat, by lia⟩
      try dsimp only
      rw [hhn] at hx0 hx1 ⊢
      have hnl : hn' < rs.length := by lia
      obtain ⟨r, hr'⟩ : ∃ r, rs[hn']? = some r := ⟨_, List.getElem?_eq_getElem hnl⟩
      obtain ⟨p, hp, hRow⟩ := d.rows.row hr'
      obtain ⟨xs, hxs, mx⟩ := id hRow
      have hxl : xs.length = r.length := Paired.length mx
      -- kind
      refine ⟨(by show 4 ≤ sizeLine; decide), fun kl hkl => ?_⟩
      refine ⟨_, rfl, _, _, rfl, rfl, ⟨by decide, by decide⟩, _, _, rfl, rfl, (by show (0 : Int) < 4; decide), kl, _, _, _, rfl, rfl, SqL.of upd_same, kd_at (Int.emod_nonneg _ (by decide)) (Int.emod_lt_of_pos _ (by decide)), ?_⟩
      try dsimp only
      generalize kdOf (c / 4 % 4) = kd
      have d := d.new (o := .lst [V.str "own", V.str "send", V.str "take", V.str "send"]) hkl
      have hxs := Same.new (o := .lst [V.str "own", V.str "send", V.str "take", V.str "send"]) hkl _ _ hxs
      clear hRow mx
      try dsimp only
      generalize L2.upd H3 kl (.lst [V.str "own", V.str "send", V.str "take", V.str "send"]) = H4 at d hxs
      -- value
      refine ⟨_, rfl, _, rfl, _, _, rfl, rfl, .inl ⟨by decide, by decide⟩, _, _, rfl, rfl, a, ns, _, rfl, d.same.seq hS, (by show (0 : Int) ≤ 11 + 3 * (0 + ((i : Nat) : Int)); lia), ?_⟩
      have hvb := value_bnd ns (11 + 3 * (0 + ((i : Nat) : Int)))
      try dsimp only
      generalize value ns (11 + 3 * (0 + ((i : Nat) : Int))) = vl at hvb
      have hD4 := SqL.of (K := K) d.rows.top
      have hmp : (qs.map V.ref)[hn']? = some (.ref p) := by rw [List.getElem?_map, hp]; rfl
      have hpix := atI_nat hmp
      obtain ⟨n, dr⟩ := d.draw
      -- if len(rows[hand]) < 6 and kind == 'send'
      refine ⟨_, rfl, _, rfl, D, _, _, _, rfl, rfl, hD4, hpix, p, xs, rfl, .inl (SqL.of hxs), _, _, rfl, rfl, _, rfl, ?_⟩
      refine ite2 (fun hlt => ?_) (fun hlt => ?_)
      · have hlt6 : ((xs.length : Nat) : Int) < 6 := of_decide_eq_true hlt
        have hr6 : r.length < 6 := by lia
        refine ⟨_, rfl, rfl, _, rfl, ?_⟩
        refine ite2 (fun hk => ?_) (fun hk => ?_)
        · -- letters.append
          have hx13 := Int.emod_nonneg (13 * snt + c / 16) (show (100 : Int) ≠ 0 by decide)
          have hx14 := Int.emod_lt_of_pos (13 * snt + c / 16) (show (0 : Int) < 100 by decide)
          refine ⟨_, rfl, .inl ⟨rfl, _, SqL.of d.lets⟩, _, rfl, _, _, rfl, rfl, .inl ⟨by decide, by decide⟩, _, rfl, _, _, rfl, rfl, ⟨by decide, by decide⟩, _, _, rfl, rfl, _, _, rfl, rfl, (by show (0 : Int) < 100; decide), lb, _, _, rfl, rfl, d.lets, small1000 (by rw [List.length_map]; have := d.lsl; lia), ?_⟩
          try dsimp only
          generalize (13 * snt + c / 16) % 100 = l at hx13 hx14
          -- sent
          refine ⟨_, rfl, _, _, rfl, rfl, ?_⟩
          obtain ⟨s5, R5⟩ := d.lst hlb lD lq (ls.map V.int ++ [V.int l])
          have hxs5 : L2.upd H4 lb (.lst (ls.map V.int ++ [V.int l])) p = some (.lst xs) := by rw [upd_ne (by rintro rfl; exact lq (List.mem_of_getElem? hp))]; exact hxs
          have L5 : L2.upd H4 lb (.lst (ls.map V.int ++ [V.int l])) lb = some (.lst ((ls ++ [l]).map V.int)) := by rw [upd_same, List.map_append]; rfl
          try dsimp only
          generalize L2.upd H4 lb (.lst (ls.map V.int ++ [V.int l])) = H5 at s5 R5 hxs5 L5
          have hlast : atI ((ls ++ [l]).map V.int) (-1) = some (.int l) := by rw [List.map_append]; exact atI_last _ _
          have hD5 := SqL.of (K := K) R5.top
          -- the two ways behind
          have own : (∃ rs' ls' snt' v6 v7 v8 v9 v10, [some (V.ref a), some (.int (m : Nat)), some (.int hands), some (.ref D), some (.ref lb), some (.int (snt + 1)), some (.int (0 + (i : Nat))), some (.int c), some (.int (hn' : Nat)), some (.str kd.str), some (.int vl)] = [some (.ref a), some (.int (m : Nat)), some (.int hands), some (.ref D), some (.ref lb), some (.int snt'), v6, v7, v8, v9, v10] ∧ RecI H H4 D lb qs rs' ls' (i + 1) ∧ rs'.length = hands.toNat) ∨ True := .inr trivial
          clear own
          have popped : tSeq (tDrop (tBM0 K "list" rPop (tVar 4))) (tDrop (tBM K "list" rAppend (tOp (rIxL K) (tVar 3) (tVar 8)) (tCons (tTup (tCons (tC (.str "own")) (tCons (tC (.int 0)) (tCons (tVar 10) tNil)))) tNil)))
              { nx := fun σ H3 => ∃ rs ls snt v6 v7 v8 v9 v10, σ = [some (.ref a), some (.int (m : Nat)), some (.int hands), some (.ref D), some (.ref lb), some (.int snt), v6, v7, v8, v9, v10] ∧ RecI H H3 D lb qs rs ls (i + 1) ∧ rs.length = hands.toNat, rt := fun _ _ => True }
              [some (V.ref a), some (.int (m : Nat)), some (.int hands), some (.ref D), some (.ref lb), some (.int (snt + 1)), some (.int (0 + (i : Nat))), some (.int c), some (.int (hn' : Nat)), some (.str kd.str), some (.int vl)] H5 := by
            refine ⟨_, rfl, .inl ⟨rfl, _, SqL.of L5⟩, lb, _, .int l, rfl, rfl, L5, ?_, ?_⟩
            · rw [List.map_append, List.length_append]
              simp
            · have ed : ((ls ++ [l]).map V.int).dropLast = ls.map V.int := by rw [List.map_append]; simp
              rw [ed]
              have s6 : Same H (L2.upd H5 lb (.lst (ls.map V.int))) := fun b o z => by rw [upd_ne (ne_of_none z hlb)]; exact s5 b o z
              have R6 : RowsA (L2.upd H5 lb (.lst (ls.map V.int))) D qs rs := R5.keep (S := fun b => b = lb) (Kept.upd rfl) (fun b ys hb z => by rw [hb, L5] at z; cases z) (fun z => lD z.symm) (fun p hp z => lq (z ▸ hp))
              have hx6 : L2.upd H5 lb (.lst (ls.map V.int)) p = some (.lst xs) := by rw [upd_ne (by rintro rfl; exact lq (List.mem_of_getElem? hp))]; exact hxs5
              refine ⟨_, rfl, _, rfl, D, _, _, _, rfl, rfl, SqL.of R6.top, hpix, .inl ⟨rfl, _, SqL.of hx6⟩, _, rfl, (by show 3 ≤ sizeLine; decide), fun t ht => ?_⟩
              refine ⟨p, xs, .ref t, rfl, rfl, Same.new ht _ _ hx6, small1000 (by lia), ?_⟩
              exact ⟨_, ls, _, _, _, _, _, _, rfl, rec_more (e := ⟨.own, 0, vl⟩) s6 R6 upd_same d.tot (by have := d.lsl; lia) hn nd nD lq hp hr' hx6 ht ⟨_, dr.own hr' hr6 hvb⟩, by rw [app_len]; exact hl⟩
          refine ⟨_, rfl, .inl ⟨rfl, _, SqL.of L5⟩, _, rfl, _, rfl, lb, _, _, _, rfl, rfl, SqL.of L5, hlast, .int l, .int l, _, rfl, ⟨rfl, rfl⟩, ints_mean K L5, _, _, rfl, rfl, _, rfl, ?_⟩
          refine ite2 (fun hcnt => ?_) (fun hcnt => ?_)
          · exact iteT popped
          · refine ⟨_, rfl, _, rfl, _, rfl, lb, _, _, _, rfl, rfl, SqL.of L5, hlast, D, qs, rs, l, rfl, R5, fun b hb => ⟨b, rfl, ?_⟩⟩
            cases b with
            | true => exact iteT popped
            | false =>
              refine iteF ?_
              have hnu : ¬ Used rs l := fun z => absurd (hb.mpr z) Bool.false_ne_true
              refine ⟨_, rfl, _, rfl, D, _, _, _, rfl, rfl, hD5, hpix, .inl ⟨rfl, _, SqL.of hxs5⟩, _, rfl, _, rfl, lb, _, _, _, rfl, rfl, SqL.of L5, hlast, _, rfl, (by show 3 ≤ sizeLine; decide), fun t ht => ?_⟩
              refine ⟨p, xs, .ref t, rfl, rfl, Same.new ht _ _ hxs5, small1000 (by lia), ?_⟩
              exact ⟨_, ls ++ [l], _, _, _, _, _, _, rfl, rec_more (e := ⟨.send, l, vl⟩) s5 R5 L5 d.tot (by rw [List.length_append]; have := d.lsl; simp; lia) hn nd nD lq hp hr' hxs5 ht ⟨_, dr.send hr' hr6 ⟨hx13, by lia⟩ hvb hnu⟩, by rw [app_len]; exact hl⟩
        · -- elif .. 'take' .. / elif
          refine ⟨_, rfl, _, rfl, D, _, _, _, rfl, rfl, hD4, hpix, p, xs, rfl, .inl (SqL.of hxs), _, _, rfl, rfl, _, rfl, ?_⟩
          refine ite2 (fun _ => ?_) (fun z => absurd (decide_eq_true hlt6) z)
          refine ⟨_, rfl, rfl, _, rfl, ?_⟩
          have third : tIfS (tTest (tOp (rI0 fun i j => .bl (decide (i < j))) (tCB (rLenS K) (tCons (tOp (rIxL K) (tVar 3) (tVar 8)) tNil)) (tC (.int 6)))) (tDrop (tBM K "list" rAppend (tOp (rIxL K) (tVar 3) (tVar 8)) (tCons (tTup (tCons (tC (.str "own")) (tCons (tC (.int 0)) (tCons (tVar 10) tNil)))) tNil))) tNext
              { nx := fun σ H3 => ∃ rs ls snt v6 v7 v8 v9 v10, σ = [some (.ref a), some (.int (m : Nat)), some (.int hands), some (.ref D), some (.ref lb), some (.int snt), v6, v7, v8, v9, v10] ∧ RecI H H3 D lb qs rs ls (i + 1) ∧ rs.length = hands.toNat, rt := fun _ _ => True }
              [some (V.ref a), some (.int (m : Nat)), some (.int hands), some (.ref D), some (.ref lb), some (.int snt), some (.int (0 + (i : Nat))), some (.int c), some (.int (hn' : Nat)), some (.str kd.str), some (.int vl)] H4 := by
            refine ⟨_, rfl, _, rfl, D, _, _, _, rfl, rfl, hD4, hpix, p, xs, rfl, .inl (SqL.of hxs), _, _, rfl, rfl, _, rfl, ?_⟩
            refine ite2 (fun _ => ?_) (fun z => absurd (decide_eq_true hlt6) z)
            refine ⟨_, rfl, _, rfl, D, _, _, _, rfl, rfl, hD4, hpix, .inl ⟨rfl, _, SqL.of hxs⟩, _, rfl, (by show 3 ≤ sizeLine; decide), fun t ht => ?_⟩
            refine ⟨p, xs, .ref t, rfl, rfl, Same.new ht _ _ hxs, small1000 (by lia), ?_⟩
            exact ⟨_, ls, _, _, _, _, _, _, rfl, rec_more (e := ⟨.own, 0, vl⟩) d.same d.rows d.lets d.tot (by have := d.lsl; lia) hn nd nD lq hp hr' hxs ht ⟨_, dr.own hr' hr6 hvb⟩, by rw [app_len]; exact hl⟩
          refine ite2 (fun hk2 => ?_) (fun hk2 => ?_)
          · refine ⟨_, rfl, lb, _, rfl, .inl (SqL.of d.lets), _, _, rfl, rfl, _, rfl, ?_⟩
            refine ite2 (fun hpos => ?_) (fun hpos => ?_)
            · have hpos : (0 : Int) < (((ls.map V.int).length : Nat) : Int) := of_decide_eq_true hpos
              rw [List.length_map] at hpos
              have hj0 := Int.emod_nonneg (c / 16) (show ((ls.length : Nat) : Int) ≠ 0 by lia)
              have hj1 := Int.emod_lt_of_pos (c / 16) (show (0 : Int) < ((ls.length : Nat) : Int) by lia)
              obtain ⟨j, hj⟩ : ∃ j : Nat, c / 16 % ((ls.length : Nat) : Int) = ((j : Nat) : Int) := ⟨(c / 16 % ((ls.length : Nat) : Int)).toNat, by lia⟩
              have hjl : j < ls.length := by lia
              have hls := d.lsl
              have hgj : ls[j]? = some ls[j] := List.getElem?_eq_getElem hjl
              refine ⟨_, rfl, _, rfl, D, _, _, _, rfl, rfl, hD4, hpix, .inl ⟨rfl, _, SqL.of hxs⟩, _, rfl, .inl ⟨rfl, _, SqL.of d.lets⟩, _, rfl, _, _, rfl, rfl, ⟨by decide, by decide⟩, _, rfl, lb, _, rfl, .inl (SqL.of d.lets), _, _, rfl, rfl, (by show (0 : Int) < (((ls.map V.int).length : Nat) : Int); rw [List.length_map]; exact hpos), ?_⟩
              refine ⟨lb, _, _, j, .int ls[j], rfl, rfl, d.lets, ?_, ?_, ?_, by rw [List.getElem?_map, hgj]; rfl, ?_⟩
              · rw [List.length_map, hj]; lia
              · rw [List.length_map, hj]; lia
              · rw [List.length_map, hj]
                exact (ixN_seq (ixN_nat hjl)).1
              obtain ⟨s5, R5⟩ := d.lst hlb lD lq ((ls.map V.int).eraseIdx j)
              have hxs5 : L2.upd H4 lb (.lst ((ls.map V.int).eraseIdx j)) p = some (.lst xs) := by rw [upd_ne (by rintro rfl; exact lq (List.mem_of_getElem? hp))]; exact hxs
              have L5 : L2.upd H4 lb (.lst ((ls.map V.int).eraseIdx j)) lb = some (.lst ((ls.eraseIdx j).map V.int)) := by
                rw [upd_same, erase_map]
              refine ⟨_, rfl, (by show 3 ≤ sizeLine; decide), fun t ht => ?_⟩
              refine ⟨p, xs, .ref t, rfl, rfl, Same.new ht _ _ hxs5, small1000 (by lia), ?_⟩
              exact ⟨_, ls.eraseIdx j, _, _, _, _, _, _, rfl, rec_more (e := ⟨.take, ls[j], vl⟩) s5 R5 L5 d.tot (by have := len_erase ls j; lia) hn nd nD lq hp hr' hxs5 ht ⟨_, dr.take hr' hr6 hgj hvb⟩, by rw [app_len]; exact hl⟩
            · exact third
          · refine iteF ?_
            exact third
      · refine iteF ?_
        refine ⟨_, rfl, _, rfl, D, _, _, _, rfl, rfl, hD4, hpix, p, xs, rfl, .inl (SqL.of hxs), _, _, rfl, rfl, _, rfl, ?_⟩
        refine ite2 (fun z => absurd z hlt) (fun _ => ?_)
        refine iteF ?_
        refine ⟨_, rfl, _, rfl, D, _, _, _, rfl, rfl, hD4, hpix, p, xs, rfl, .inl (SqL.of hxs), _, _, rfl, rfl, _, rfl, ?_⟩
        refine ite2 (fun z => absurd z hlt) (fun _ => ?_)
        exact ⟨rs, ls, _, _, _, _, _, _, rfl, d.mono (Nat.le_succ _), hl⟩
    · rintro σ H3 ⟨rs, ls, snt, v6, v7, v8, v9, v10, rfl, d, hl⟩
      obtain ⟨n, dr⟩ := d.draw
      refine ⟨_, rfl, q D qs rs H3 dr.val d.same ⟨d.rows, hD, hn, nd, nD⟩ ?_⟩
      have := d.tot
      lia
end
end Cw

set_option Elab.async false
set_option linter.all false
set_option maxRecDepth 100000
set_option maxHeartbeats 4000000
namespace Cw
open PySem L2
noncomputable abbrev s_shown_event : Stmt := top 26
theorem sc_shown_event : FnScope ["event", "letter", "value", "mark"] ["event"] (defScope s_shown_event) := ⟨rfl, rfl, rfl, by decide +kernel, rfl, by decide +kernel, by decide +kernel⟩

noncomputable abbrev s_shown_row : Stmt := top 25
theorem sc_shown_row : FnScope ["row"] ["row"] (defScope s_shown_row) := ⟨rfl, rfl, rfl, by decide +kernel, rfl, by decide +kernel, by decide +kernel⟩

noncomputable abbrev s_shown : Stmt := top 24
theorem sc_shown : FnScope ["record"] ["record"] (defScope s_shown) := ⟨rfl, rfl, rfl, by decide +kernel, rfl, by decide +kernel, by decide +kernel⟩

noncomputable abbrev s_law_note : Stmt := top 40
theorem sc_law_note : FnScope ["rows", "lines", "row", "words", "event", "head"] ["rows"] (defScope s_law_note) := ⟨rfl, rfl, rfl, by decide +kernel, rfl, by decide +kernel, by decide +kernel⟩

theorem tjoin (s : Str) (ps : List Str) : Txt.join s ps = Str.join s ps := StrLaws.glued_eq_join s ps
theorem sz1000 {n : Nat} (h : n ≤ 1000) : n ≤ sizeLine := Nat.le_trans h (by decide)
section
variable {P : Program} {w : World} {K : PySem.W.Frag} {mg : Str → Option Value} {base : Heap}
theorem ok_shev {f C pM pK : Addr} {fd : FuncData} (F : Fun K "shown_event" "shown_event" s_shown_event f fd) (B : Bl mg) (Z : ExcT K w mg C pM pK) : FnOk P w K mg base CX0 1 f fd ["event"] sp_shev := by
  have sc := sc_shown_event
  refine F.ok sc (fun vs H Q E h => ?_) (fun cdv A outer s H vs Q E hr h => ?_)
  · obtain ⟨t, e, rfl, _⟩ := h
    rfl
  · obtain ⟨t, e, rfl, ht, hE, q⟩ := h
    have hv : (Str.ofString (toString e.v)).length ≤ 20 := num_short hE.v0 hE.v1
    have hl : (Str.ofString (toString e.l)).length ≤ 20 := num_short (by have := hE.l0; lia) (by have := hE.l1; lia)
    have hlv := log_num hE.v0 hE.v1
    have hll : e.l.natAbs.log2 < 1920 := log_num (by have := hE.l0; lia) (by have := hE.l1; lia)
    have l0 : Str.empty.length = 0 := rfl
    have l1 : (Str.ofString "=").length = 1 := by decide +kernel
    refine ⟨_, (pss_cons (ps_set (i := 1) sc.nd rfl (Or.inl rfl) (pe_ix ix_tup (pv 0) pe_int (fun _ _ => rfl)))
       (pss_cons (ps_set (i := 2) sc.nd rfl (Or.inl rfl) (pe_ix ix_tup (pv 0) pe_int (fun _ _ => rfl)))
       (pss_cons (ps_if (pt_cmpR op_eq (pe_ix ix_tup (pv 0) pe_int (fun _ _ => rfl)) pe_str (nomark _)) (pss_one (ps_ret (pe_fstr (pj_str (pj_val (pv 2) pj_nil))))) pss_nil)
       (pss_cons (ps_set (i := 3) sc.nd rfl (Or.inl rfl) (pe_kget Z.d_MARKS (by rfl) Z.g_MARKS (pe_ix ix_tup (pv 0) pe_int (fun _ _ => rfl)) (fun _ _ => rfl)))
       (pss_one (ps_ret (pe_fstr (pj_val (pv 3) (pj_val (pv 1) (pj_str (pj_val (pv 2) pj_nil))))))))))), ?_⟩
    refine ⟨_, rfl, t, _, 1, _, rfl, rfl, SqT.of ht, rfl, ?_⟩
    refine ⟨_, rfl, t, _, 2, _, rfl, rfl, SqT.of ht, rfl, ?_⟩
    refine ⟨_, rfl, t, _, 0, _, rfl, rfl, SqT.of ht, rfl, rfl, _, rfl, ?_⟩
    refine ite2 (fun h1 => ?_) (fun h1 => ?_)
    · have h1 : decide (V.str e.k.str = V.str Kd.own.str) = true := h1
      rw [kd_dec] at h1
      have hk : e.k = .own := of_decide_eq_true h1
      refine ⟨sz1000 (by rw [strLen_append]; lia), _, rfl, .inl ⟨e.v, rfl, hlv, sz1000 (by rw [strLen_append, strLen_append]; lia), sz1000 (by rw [strLen_append, strLen_append]; lia), ?_⟩⟩
      rw [ev_own hk]
      exact q
    · have h1 : ¬ decide (V.str e.k.str = V.str Kd.own.str) = true := h1
      rw [kd_dec] at h1
      have hk : e.k ≠ .own := fun z => h1 (decide_eq_true z)
      obtain ⟨m, hm, hml, hmm⟩ : ∃ m : Str, kdv "send" "!" "take" "?" e.k.str = some m ∧ m.length = 1 ∧ ((e.k = .send ∧ m = Str.ofString "!") ∨ (e.k = .take ∧ m = Str.ofString "?")) := by
        cases he : e.k with
        | own => exact absurd he hk
        | send => exact ⟨Str.ofString "!", by unfold kdv; rw [if_pos (by rfl)], by decide +kernel, .inl ⟨rfl, rfl⟩⟩
        | take => exact ⟨Str.ofString "?", by unfold kdv; rw [if_neg (by decide +kernel), if_pos (by rfl)], by decide +kernel, .inr ⟨rfl, rfl⟩⟩
      refine ⟨_, rfl, t, _, 0, _, rfl, rfl, SqT.of ht, rfl, _, m, rfl, hm, ?_⟩
      refine ⟨_, rfl, .inr ⟨m, rfl, sz1000 (by lia), sz1000 (by rw [strLen_append]; lia), _, rfl, .inl ⟨e.l, rfl, hll, sz1000 (by rw [strLen_append, strLen_append]; lia), sz1000 (by rw [strLen_append, strLen_append, strLen_append]; lia), _, rfl, .inl ⟨e.v, rfl, hlv, sz1000 (by rw [strLen_append, strLen_append, strLen_append, strLen_append]; lia), sz1000 (by rw [strLen_append, strLen_append, strLen_append, strLen_append]; lia), ?_⟩⟩⟩⟩
      rw [ev_other hmm]
      exact q
theorem ok_shrow {f : Addr} {fd : FuncData} (F : Fun K "shown_row" "shown_row" s_shown_row f fd) (B : Bl mg) (D_shown_event : Df P w K mg base 1 "shown_event" ["event"] sp_shev) : FnOk P w K mg base CX0 2 f fd ["row"] sp_shrow := by
  have sc := sc_shown_row
  refine F.ok sc (fun vs H Q E h => ?_) (fun cdv A outer s H vs Q E hr h => ?_)
  · obtain ⟨p, r, rfl, _⟩ := h
    rfl
  · obtain ⟨p, r, rfl, ⟨xs, hx, m⟩, hr6, hev, q⟩ := h
    have hxl := Paired.length m
    refine ⟨_, (pss_one (ps_ret (pe_bm PySem.F.plainAttrs_str PySem.F.slot_str_join PySem.F.type_str_join mt_sjoin pe_str (pa_cons (pe_lc (te := (tCall sp_shev [] E0 (tCons (tVar 0) tNil))) (tt := tTrue) (Blk.plain (ts := ["event"]) (by decide +kernel) (by decide +kernel) rfl (by decide +kernel)) rfl (pi_list (pv 0)) (fun _ _ _ _ => (pg_name (i := 0) (show List.Nodup (["event"] : List Str) by decide +kernel) rfl (Or.inl rfl))) (fun _ _ _ _ => pifs_nil) (fun _ _ _ _ => (pe_df D_shown_event (hr.mono (by decide)) (pa_cons (pv 0) pa_nil)))) pa_nil)))), ?_⟩
    refine ⟨rfl, _, rfl, p, rfl, ⟨_, SqL.of hx⟩, fun D hD => lc_list (K := K) (a := p) (xs := xs) (fun i σ ys H2 => ∃ v, σ = [v] ∧ ys = ((r.take i).map evT).map V.str ∧ Same H H2 ∧ H2 D = some (.lst ys))
      ⟨_, rfl, rfl, Same.new hD, upd_same⟩ (fun i σ ys H2 _ ⟨v, _, _, s2, _⟩ => SqL.of (s2 _ _ hx)) ?_ ?_⟩
    · rintro i y σ ys H2 hi ⟨v, rfl, rfl, s2, hD2⟩
      obtain ⟨t, e, he, rfl, ht⟩ := ev_get m hi
      have hil := lt_of_get he
      refine ⟨_, rfl, t, e, rfl, s2 _ _ ht, hev e (List.mem_of_getElem? he), hD2, small1000 (by rw [List.length_map, List.length_map, List.length_take]; lia), _, rfl, ?_, s2.off hD, upd_same⟩
      rw [snoc_take he, List.map_append, List.map_append]
      rfl
    · rintro σ ys H2 ⟨v, rfl, rfl, s2, hD2⟩
      rw [hxl, List.take_length] at hD2
      refine ⟨_, D, r.map evT, rfl, rfl, SqL.of hD2, join_ok (B := 50) (fun y hy => ?_) ?_, ?_⟩
      · obtain ⟨e, he, rfl⟩ := List.mem_map.mp hy
        exact evT_len (hev e he)
      · rw [List.length_map, lit_sp]
        show _ + _ * 1 ≤ _
        lia
      · rw [lit_sp, tjoin]
        exact q H2 s2
theorem ok_shown {f C : Addr} {fd : FuncData} (F : Fun K "shown" "shown" s_shown f fd) (B : Bl mg) (R : RecC K C) (D_shown_row : Df P w K mg base 2 "shown_row" ["row"] sp_shrow) : FnOk P w K mg base CX0 3 f fd ["record"] (sp_shown C) := by
  have sc := sc_shown
  refine F.ok sc (fun vs H Q E h => ?_) (fun cdv A outer s H vs Q E hr h => ?_)
  · obtain ⟨x, a, sd, td, ps, rs, rfl, _⟩ := h
    rfl
  · obtain ⟨x, a, sd, td, ps, rs, rfl, hA, q⟩ := h
    obtain ⟨dx, hx⟩ := hA.ob
    have hR := hA.rows
    have hB := hA.val.bnd
    have hb4 := hB.hi
    have hpl : (ps.map V.ref).length = rs.length := by rw [List.length_map, hR.len]
    refine ⟨_, (pss_one (ps_ret (pe_bm PySem.F.plainAttrs_str PySem.F.slot_str_join PySem.F.type_str_join mt_sjoin pe_str (pa_cons (pe_lc (te := (tCall sp_shrow [] E0 (tCons (tVar 0) tNil))) (tt := tTrue) (Blk.plain (ts := ["row"]) (by decide +kernel) (by decide +kernel) rfl (by decide +kernel)) rfl (pi_list (pe_fld (pv 0) rfl)) (fun _ _ _ _ => (pg_name (i := 0) (show List.Nodup (["row"] : List Str) by decide +kernel) rfl (Or.inl rfl))) (fun _ _ _ _ => pifs_nil) (fun _ _ _ _ => (pe_df D_shown_row (hr.mono (by decide)) (pa_cons (pv 0) pa_nil)))) pa_nil)))), ?_⟩
    refine ⟨rfl, _, rfl, x, C, dx, _, _, rfl, hx, R.cl, R.nR, rec_rows _ _ _, a, rfl, ⟨_, SqL.of hR.top⟩, fun D hD => lc_list (K := K) (a := a) (xs := ps.map V.ref) (fun i σ ys H2 => ∃ v, σ = [v] ∧ ys = ((rs.take i).map rowT).map V.str ∧ Same H H2 ∧ H2 D = some (.lst ys))
      ⟨_, rfl, rfl, Same.new hD, upd_same⟩ (fun i σ ys H2 _ ⟨v, _, _, s2, _⟩ => SqL.of (s2 _ _ hR.top)) ?_ ?_⟩
    · rintro i y σ ys H2 hi ⟨v, rfl, rfl, s2, hD2⟩
      obtain ⟨p, hp, rfl⟩ := map_ref hi
      obtain ⟨row, hrow, xs, hxs, m⟩ := hR.get hp
      have hil := lt_of_get hrow
      obtain ⟨h6, hev⟩ := hB.ev (List.mem_of_getElem? hrow)
      have hrow2 : RowA H2 p row := ⟨xs, s2 _ _ hxs, Paired.mapP m fun x e z => z.keep (S := fun _ => False) (fun b o e _ => s2 b o e) (fun _ _ z => z.elim)⟩
      refine ⟨_, rfl, p, row, rfl, hrow2, h6, hev, fun H3 s3 => ?_⟩
      refine ⟨s3 _ _ hD2, small1000 (by rw [List.length_map, List.length_map, List.length_take]; lia), _, rfl, ?_, (s2.trans s3).off hD, upd_same⟩
      rw [snoc_take hrow, List.map_append, List.map_append]
      rfl
    · rintro σ ys H2 ⟨v, rfl, rfl, s2, hD2⟩
      rw [hpl, List.take_length] at hD2
      refine ⟨_, D, rs.map rowT, rfl, rfl, SqL.of hD2, join_ok (B := 400) (fun y hy => ?_) ?_, ?_⟩
      · obtain ⟨r, hr', rfl⟩ := List.mem_map.mp hy
        exact rowT_len (hB.ev hr').1 (hB.ev hr').2
      · rw [List.length_map, lit_nl]
        show _ + _ * 1 ≤ _
        lia
      · rw [lit_nl, tjoin]
        exact q H2 s2
theorem ok_lnote {f : Addr} {fd : FuncData} (F : Fun K "_law_note" "_law_note" s_law_note f fd) (B : Bl mg) : FnOk P w K mg base CX0 1 f fd ["rows"] sp_lnote := by
  have sc := sc_law_note
  refine F.ok sc (fun vs H Q E h => ?_) (fun cdv A outer s H vs Q E hr h => ?_)
  · obtain ⟨a, ps, rs, rfl, _⟩ := h
    rfl
  · obtain ⟨a, ps, rs, rfl, hR, hB, q⟩ := h
    have hb4 := hB.hi
    have hpl : (ps.map V.ref).length = rs.length := by rw [List.length_map, hR.len]
    refine ⟨_, (pss_cons (ps_set (i := 1) sc.nd rfl (Or.inl rfl) (pe_lst pa_nil))
       (pss_cons (ps_for PassesOwn.never rfl (pi_list (pv 0)) (pg_name (i := 2) sc.nd rfl (Or.inl rfl)) (pss_cons (ps_set (i := 3) sc.nd rfl (Or.inl rfl) (pe_lst pa_nil))
       (pss_cons (ps_for PassesOwn.never rfl (pi_list (pv 2)) (pg_name (i := 4) sc.nd rfl (Or.inl rfl)) (pss_cons (ps_set (i := 5) sc.nd rfl (Or.inl rfl) pe_str)
       (pss_cons (ps_if (pt_cmpR op_ne (pe_ix ix_tup (pv 4) pe_int (fun _ _ => rfl)) pe_str (nomark _)) (pss_one (ps_set (i := 5) sc.nd rfl (Or.inl rfl) (pe_op op_add_str (pe_ix ix_list (pe_lst (pa_cons pe_str (pa_cons pe_str pa_nil))) (pe_callTy call_intB (by rfl) (B "int" (by decide +kernel)) bt_int (pa_cons (pe_cmpR op_eq (pe_ix ix_tup (pv 4) pe_int (fun _ _ => rfl)) pe_str (nomark _)) pa_nil)) (fun _ _ => rfl)) (pe_callTy call_str_int (by rfl) (B "str" (by decide +kernel)) bt_str (pa_cons (pe_ix ix_tup (pv 4) pe_int (fun _ _ => rfl)) pa_nil))))) pss_nil)
       (pss_one (ps_expr (pe_bm PySem.F.plainAttrs_list PySem.F.slot_list_append PySem.F.type_list_append mt_append (pv 3) (pa_cons (pe_op op_add_str (pe_op op_add_str (pv 5) pe_str) (pe_callTy call_str_int (by rfl) (B "str" (by decide +kernel)) bt_str (pa_cons (pe_ix ix_tup (pv 4) pe_int (fun _ _ => rfl)) pa_nil))) pa_nil)))))))
       (pss_one (ps_expr (pe_bm PySem.F.plainAttrs_list PySem.F.slot_list_append PySem.F.type_list_append mt_append (pv 1) (pa_cons (pe_bm PySem.F.plainAttrs_str PySem.F.slot_str_join PySem.F.type_str_join mt_sjoin pe_str (pa_cons (pv 3) pa_nil)) pa_nil)))))))
       (pss_one (ps_ret (pe_bm PySem.F.plainAttrs_str PySem.F.slot_str_join PySem.F.type_str_join mt_sjoin pe_str (pa_cons (pv 1) pa_nil)))))), ?_⟩
    refine ⟨(by show 0 ≤ sizeLine; decide), fun l hl => ?_⟩
    have n1 := Same.new (o := .lst []) hl
    refine ⟨_, rfl, a, rfl, ⟨_, SqL.of (n1 _ _ hR.top)⟩, for_list (K := K) (a := a) (xs := ps.map V.ref) (fun i σ H2 => Same H H2 ∧ H2 l = some (.lst (((rs.take i).map rowT).map V.str)) ∧ ∃ v2 v3 v4 v5, σ = [some (.ref a), some (.ref l), v2, v3, v4, v5])
      ⟨n1, upd_same, _, _, _, _, rfl⟩ (fun i σ H2 _ ⟨s2, _⟩ => SqL.of (s2 _ _ hR.top)) ?_ ?_⟩
    · rintro i y σ H2 hi ⟨s2, hl2, v2, v3, v4, v5, rfl⟩
      obtain ⟨p, hp, rfl⟩ := map_ref hi
      obtain ⟨row, hrow, xs, hxs, m⟩ := hR.get hp
      have hil := lt_of_get hrow
      have hxl := Paired.length m
      obtain ⟨h6, hev⟩ := hB.ev (List.mem_of_getElem? hrow)
      refine ⟨(by show 0 ≤ sizeLine; decide), fun wl hwl => ?_⟩
      have n3 := Same.new (o := .lst []) hwl
      have hwl0 : H wl = none := s2.free hwl
      have lw : l ≠ wl := by rintro rfl; rw [hl2] at hwl; cases hwl
      refine ⟨_, rfl, p, rfl, ⟨_, SqL.of (n3 _ _ (s2 _ _ hxs))⟩, for_list (K := K) (a := p) (xs := xs) (fun j σ H3 => Same H H3 ∧ H3 l = some (.lst (((rs.take i).map rowT).map V.str)) ∧ H3 wl = some (.lst (((row.take j).map evT).map V.str)) ∧ ∃ v4 v5, σ = [some (.ref a), some (.ref l), some (.ref p), some (.ref wl), v4, v5])
        ⟨s2.trans n3, n3 _ _ hl2, upd_same, _, _, rfl⟩ (fun i σ H3 _ ⟨s3, _⟩ => SqL.of (s3 _ _ hxs)) ?_ ?_⟩
      · rintro j y σ H3 hj ⟨s3, hl3, hw3, v4, v5, rfl⟩
        obtain ⟨t, e, he, rfl, ht⟩ := ev_get m hj
        have hjl := lt_of_get he
        have hE := hev e (List.mem_of_getElem? he)
        have hv : (Str.ofString (toString e.v)).length ≤ 20 := num_short hE.v0 hE.v1
        have hl : (Str.ofString (toString e.l)).length ≤ 20 := num_short (by have := hE.l0; lia) (by have := hE.l1; lia)
        have hlv := log_num hE.v0 hE.v1
        have hll : e.l.natAbs.log2 < 1920 := log_num (by have := hE.l0; lia) (by have := hE.l1; lia)
        have hhd : (hdT e).length ≤ 100 := by
          have := evT_len hE
          unfold evT at this
          rw [strLen_append, strLen_append] at this
          lia
        refine seq_set ?_
        refine if_mid (!decide (V.str e.k.str = V.str Kd.own.str)) (fun σ' H' => Same H H' ∧ H' l = some (.lst (((rs.take i).map rowT).map V.str)) ∧ H' wl = some (.lst (((row.take j).map evT).map V.str)) ∧ σ' = [some (.ref a), some (.ref l), some (.ref p), some (.ref wl), some (.ref t), some (.str (hdT e))])
          (fun R h => ⟨_, rfl, t, _, 0, _, rfl, rfl, SqT.of (s3 _ _ ht), rfl, rfl, _, rfl, h⟩) (fun hc => ?_) (fun hc rest => ?_) ?_
        · rw [kd_dec] at hc
          have hk : e.k = .own := by
            by_cases z : e.k = .own
            · exact z
            · rw [decide_eq_false z] at hc; cases hc
          refine ⟨s3, hl3, hw3, ?_⟩
          unfold hdT
          rw [hk]
          rfl
        · rw [kd_dec] at hc
          have hk : e.k ≠ .own := fun z => by rw [decide_eq_true z] at hc; cases hc
          refine ⟨(by show 2 ≤ sizeLine; decide), fun l2 hl2 => ?_⟩
          have n4 := Same.new (o := .lst [V.str "!", V.str "?"]) hl2
          have hl4 : L2.upd H3 l2 (.lst [V.str "!", V.str "?"]) l2 = some (.lst [V.str "!", V.str "?"]) := upd_same
          have ha : atI [V.str "!", V.str "?"] (if decide (V.str e.k.str = V.str Kd.take.str) then 1 else 0) = some (.str (mkT e.k)) := by
            rw [kd_dec]
            cases he : e.k with
            | own => exact absurd he hk
            | send => rfl
            | take => rfl
          have hmk : mkT e.k ++ Str.ofString (toString e.l) = hdT e := by
            unfold hdT mkT num
            cases he : e.k with
            | own => exact absurd he hk
            | send => rfl
            | take => rfl
          have hml : (mkT e.k).length ≤ 1 := by cases e.k <;> decide +kernel
          refine ⟨_, rfl, t, _, 0, _, rfl, rfl, SqT.of (n4 _ _ (s3 _ _ ht)), rfl, rfl, _, rfl, l2, _, _, _, rfl, rfl, SqL.of hl4, ha, _, rfl, t, _, 1, _, rfl, rfl, SqT.of (n4 _ _ (s3 _ _ ht)), rfl, e.l, rfl, hll, _, _, rfl, rfl, sz1000 (by lia), ?_⟩
          refine rest _ _ ⟨s3.trans n4, n4 _ _ hl3, n4 _ _ hw3, ?_⟩
          rw [← hmk]
          rfl
        · rintro σ' H' ⟨s4, hl4, hw4, rfl⟩
          refine ⟨_, rfl, .inl ⟨rfl, _, SqL.of hw4⟩, _, rfl, _, _, rfl, rfl, sz1000 (by rw [lit_eq]; show _ + 1 ≤ 1000; lia), _, rfl, t, _, 2, _, rfl, rfl, SqT.of (s4 _ _ ht), rfl, e.v, rfl, hlv, _, _, rfl, rfl, sz1000 (by rw [strLen_append, lit_eq]; show _ + 1 + _ ≤ 1000; lia), wl, _, _, rfl, rfl, hw4, small1000 (by rw [List.length_map, List.length_map, List.length_take]; lia), ?_⟩
          refine ⟨s4.off hwl0, by rw [upd_ne lw]; exact hl4, ?_, _, _, rfl⟩
          rw [upd_same, snoc_take he, List.map_append, List.map_append, lit_eq]
          rfl
      · rintro σ H3 ⟨s3, hl3, hw3, v4, v5, rfl⟩
        rw [hxl, List.take_length] at hw3
        refine ⟨_, rfl, .inl ⟨rfl, _, SqL.of hl3⟩, rfl, _, rfl, _, wl, row.map evT, rfl, rfl, SqL.of hw3, join_ok (B := 50) (fun y hy => ?_) ?_, l, _, _, rfl, rfl, hl3, small1000 (by rw [List.length_map, List.length_map, List.length_take]; lia), ?_⟩
        · obtain ⟨e, he, rfl⟩ := List.mem_map.mp hy
          exact evT_len (hev e he)
        · rw [List.length_map, lit_sp]
          show _ + _ * 1 ≤ _
          lia
        · refine ⟨s3.off hl, ?_, _, _, _, _, rfl⟩
          rw [upd_same, snoc_take hrow, List.map_append, List.map_append, lit_sp, tjoin]
          rfl
    · rintro σ H2 ⟨s2, hl2, v2, v3, v4, v5, rfl⟩
      rw [hpl, List.take_length] at hl2
      refine ⟨rfl, _, rfl, _, l, rs.map rowT, rfl, rfl, SqL.of hl2, join_ok (B := 400) (fun y hy => ?_) ?_, ?_⟩
      · obtain ⟨r, hr', rfl⟩ := List.mem_map.mp hy
        exact rowT_len (hB.ev hr').1 (hB.ev hr').2
      · rw [List.length_map, lit_nl]
        show _ + _ * 1 ≤ _
        lia
      · rw [lit_nl, tjoin]
        exact q H2 s2
end
end Cw

set_option Elab.async false
set_option linter.all false
set_option maxRecDepth 100000
set_option maxHeartbeats 4000000
namespace Cw
open PySem L2
noncomputable abbrev s_read_number : Stmt := top 31
theorem sc_read_number : FnScope ["text", "greatest"] ["text", "greatest"] (defScope s_read_number) := ⟨rfl, rfl, rfl, by decide +kernel, rfl, by decide +kernel, by decide +kernel⟩

noncomputable abbrev s_read_value : Stmt := top 30
theorem sc_read_value : FnScope ["text", "number"] ["text"] (defScope s_read_value) := ⟨rfl, rfl, rfl, by decide +kernel, rfl, by decide +kernel, by decide +kernel⟩

noncomputable abbrev s_read_event : Stmt := top 29
theorem sc_read_event : FnScope ["word", "parts", "value", "doing"] ["word"] (defScope s_read_event) := ⟨rfl, rfl, rfl, by decide +kernel, rfl, by decide +kernel, by decide +kernel⟩

noncomputable abbrev s_read_row : Stmt := top 28
theorem sc_read_row : FnScope ["line", "words"] ["line"] (defScope s_read_row) := ⟨rfl, rfl, rfl, by decide +kernel, rfl, by decide +kernel, by decide +kernel⟩

noncomputable abbrev s_read : Stmt := top 27
theorem sc_read : FnScope ["note", "lines"] ["note"] (defScope s_read) := ⟨rfl, rfl, rfl, by decide +kernel, rfl, by decide +kernel, by decide +kernel⟩

section
variable {P : Program} {w : World} {K : PySem.W.Frag} {mg : Str → Option Value} {base : Heap}
theorem ok_rnum {f C pM pK : Addr} {fd : FuncData} (F : Fun K "read_number" "read_number" s_read_number f fd) (B : Bl mg) (Z : ExcT K w mg C pM pK) : FnOk P w K mg base CX0 1 f fd ["text", "greatest"] sp_rnum := by
  have sc := sc_read_number
  obtain ⟨tF, g_FIGURES⟩ := Z.c_FIGURES
  refine F.ok sc (fun vs H Q E h => ?_) (fun cdv A outer s H vs Q E hr h => ?_)
  · obtain ⟨n, g, rfl, _⟩ := h
    rfl
  · obtain ⟨n, g, rfl, hng, hg, q⟩ := h
    have h10 : (10 : Nat) ^ 10 = 10000000000 := by decide
    have hn : n < 10 ^ 10 := by rcases hg with rfl | rfl <;> lia
    have hF := figs_num hn
    have hln := num_len (k := 10) (by decide) hn
    have hpos := num_pos n
    have hsz : (num ((n : Nat) : Int)).length ≤ sizeLine := Nat.le_trans hln (by decide)
    refine ⟨_, (pss_cons (ps_if ((pw_or (pt_cmpR op_eq (pv 0) pe_str (nomark _)) (pw_or1 (pt_not (pt_val (pe_callB (call_all rfl) (by rfl) (B "all" (by decide +kernel)) bt_all (pa_cons (pe_lc (te := (tOp rInS (tVar 0) (tC (.str "0123456789")))) (tt := tTrue) (Blk.plain (ts := ["sign"]) (by decide +kernel) (by decide +kernel) rfl (by decide +kernel)) rfl (pi_str (pv 0)) (fun _ _ _ _ => (pg_name (i := 0) (show List.Nodup (["sign"] : List Str) by decide +kernel) rfl (Or.inl rfl))) (fun _ _ _ _ => pifs_nil) (fun _ _ _ _ => (pe_cmpR op_inS (pv 0) (pe_glob (v := .str "0123456789") (by rfl) (by exact g_FIGURES) ⟨_, rfl⟩) (by with_unfolding_all rfl)))) pa_nil))))))).pt (pss_one ps_never) pss_nil)
       (pss_cons (ps_if ((pw_and (pt_cmpR op_eq (pe_ix ix_str (pv 0) pe_int (fun _ _ => rfl)) pe_str (nomark _)) (pw_and1 (pt_cmpR op_ne (pv 0) pe_str (nomark _))))).pt (pss_one ps_never) pss_nil)
       (pss_cons (ps_if ((pw_or (pt_cmpR op_gt (pe_callB call_len_str (by rfl) (B "len" (by decide +kernel)) bt_len (pa_cons (pv 0) pa_nil)) (pe_callB call_len_str (by rfl) (B "len" (by decide +kernel)) bt_len (pa_cons (pe_callTy call_str_int (by rfl) (B "str" (by decide +kernel)) bt_str (pa_cons (pv 1) pa_nil)) pa_nil)) (nomark _)) (pw_or1 (pt_cmpR op_gt (pe_callTy call_intS (by rfl) (B "int" (by decide +kernel)) bt_int (pa_cons (pv 0) pa_nil)) (pv 1) (nomark _))))).pt (pss_one ps_never) pss_nil)
       (pss_one (ps_ret (pe_callTy call_intS (by rfl) (B "int" (by decide +kernel)) bt_int (pa_cons (pv 0) pa_nil))))))), ?_⟩
    refine if_no (Same H) (fun T0 hT0 => ?_) (fun H1 s1 => ?_)
    · refine ⟨_, rfl, rfl, _, rfl, ?_⟩
      refine iteNo (decide_eq_false fun z => num_ne ((n : Nat) : Int) (by injection z)) ?_
      refine ⟨_, rfl, _, rfl, fun D hD => lc_str (x := num ((n : Nat) : Int)) (fun i σ ys H2 => ∃ v, σ = [v] ∧ ys = (List.replicate i true).map V.bl ∧ Same H H2 ∧ H2 D = some (.lst ys))
        ⟨_, rfl, rfl, Same.new hD, upd_same⟩ ?_ ?_⟩
      · rintro i c σ ys H2 hc ⟨v, rfl, rfl, s2, hD2⟩
        have hc2 : (cl (num ((n : Nat) : Int)))[i]? = some c := by simpa using hc
        have hil := lt_of_get hc2
        rw [cl_len] at hil
        refine ⟨_, rfl, _, _, rfl, rfl, hD2, small1000 (by rw [List.length_map, List.length_replicate]; lia), _, rfl, ?_, s2.off hD, upd_same⟩
        rw [figs_in (digit_codes (List.mem_of_getElem? hc2)), List.replicate_succ', List.map_append]
        rfl
      rintro σ ys H2 ⟨v, rfl, rfl, s2, hD2⟩
      refine ⟨D, _, rfl, SqL.of hD2, _, rfl, ?_⟩
      rw [show (List.replicate (num ((n : Nat) : Int)).cps.size true).all id = true by rw [List.all_eq_true]; intro x hx; rw [List.eq_of_mem_replicate hx]; rfl]
      exact hT0 H2 s2
    refine if_no (Same H) (fun T0 hT0 => ?_) ?_
    · obtain ⟨c0, r0, e0⟩ : ∃ c r, cl (num ((n : Nat) : Int)) = c :: r := List.exists_cons_of_ne_nil hF.1
      refine ⟨_, rfl, _, 0, c0, rfl, rfl, hsz, (by show atI (cl (num ((n : Nat) : Int))) 0 = _; rw [e0]; exact (show atI (c0 :: r0) ((0 : Nat) : Int) = some c0 from atI_nat rfl)), rfl, _, rfl, ?_⟩
      refine ite2 (fun h1 => ?_) (fun h1 => hT0 _ s1)
      have h1 : decide (V.str ⟨#[c0]⟩ = V.str (Str.ofString "0")) = true := h1
      have h1 := of_decide_eq_true h1
      rw [lit_ze] at h1
      have hc0 : c0 = 48 := by
        injection h1 with h1
        have := congrArg cl h1
        have this : [c0] = [48] := this
        injection this
      have hn0 : n = 0 := by
        by_cases z : 0 < n
        · obtain ⟨c, r, e, hc⟩ := num_head z
          rw [e0] at e
          injection e with e1 _
          exact absurd (e1.symm.trans hc0) hc
        · lia
      subst hn0
      refine ⟨_, rfl, rfl, _, rfl, ?_⟩
      have e1 : (V.str (num ((0 : Nat) : Int)) = V.str (Str.ofString "0")) := by rw [lit_ze]; exact congrArg V.str num_zero
      have e2 : (!decide (V.str (num ((0 : Nat) : Int)) = V.str (Str.ofString "0"))) = false := by rw [decide_eq_true e1]; rfl
      first | (rw [e2]; exact hT0 _ s1) | (show T0 (!decide (V.str (num ((0 : Nat) : Int)) = V.str (Str.ofString "0"))) _; rw [e2]; exact hT0 _ s1)
    rintro H1 s1
    refine if_no (Same H) (fun T0 hT0 => ?_) ?_
    · have hlg : g.natAbs.log2 < 1920 := by rcases hg with rfl | rfl <;> decide +kernel
      have hlen : (num ((n : Nat) : Int)).length ≤ (Str.ofString (toString g)).length ∧ (Str.ofString (toString g)).length ≤ sizeLine := by
        rcases hg with rfl | rfl
        · rw [show (Str.ofString (toString (99 : Int))).length = 2 from len_99]
          exact ⟨num_len (by decide) (by have : (10 : Nat) ^ 2 = 100 := (by decide); lia), by decide⟩
        · rw [show (Str.ofString (toString (1000000000 : Int))).length = 10 from len_big]
          exact ⟨hln, by decide⟩
      refine ⟨_, rfl, _, rfl, hsz, _, rfl, g, rfl, hlg, _, rfl, hlen.2, _, _, rfl, rfl, _, rfl, ?_⟩
      refine iteNo (decide_eq_false (by have := hlen.1; lia)) ?_
      refine ⟨_, rfl, _, rfl, hF, _, rfl, _, _, rfl, rfl, _, rfl, ?_⟩
      rw [show numOf (num ((n : Nat) : Int)).cps.toList = n from numOf_num n]
      have e2 : decide (g < ((n : Nat) : Int)) = false := decide_eq_false (by lia)
      rw [e2]
      exact hT0 _ s1
    rintro H1 s1
    refine ⟨_, rfl, _, rfl, hF, ?_⟩
    rw [show numOf (num ((n : Nat) : Int)).cps.toList = n from numOf_num n]
    exact q _ s1
theorem ok_rval {f C pM pK : Addr} {fd : FuncData} (F : Fun K "read_value" "read_value" s_read_value f fd) (B : Bl mg) (Z : ExcT K w mg C pM pK) (D_read_number : Df P w K mg base 1 "read_number" ["text", "greatest"] sp_rnum) : FnOk P w K mg base CX0 2 f fd ["text"] sp_rval := by
  have sc := sc_read_value
  obtain ⟨tG, g_GREATEST_VALUE⟩ := Z.c_GREATEST_VALUE
  refine F.ok sc (fun vs H Q E h => ?_) (fun cdv A outer s H vs Q E hr h => ?_)
  · obtain ⟨v, rfl, _⟩ := h
    rfl
  · obtain ⟨v, rfl, v0, v1, q⟩ := h
    have hls := num_short v0 v1
    refine ⟨_, (pss_cons (ps_if (pt_not (pt_val (pe_bm PySem.F.plainAttrs_str PySem.F.slot_str_startswith PySem.F.type_str_startswith mt_sstarts (pv 0) (pa_cons pe_str pa_nil)))) (pss_one (ps_ret (pe_df D_read_number (hr.mono (by decide)) (pa_cons (pv 0) (pa_cons (pe_glob (v := .int 1000000000) (by rfl) (by exact g_GREATEST_VALUE) ⟨_, rfl⟩) pa_nil))))) pss_nil)
       (pss_cons (ps_set (i := 1) sc.nd rfl (Or.inl rfl) (pe_df D_read_number (hr.mono (by decide)) (pa_cons (pe_slice sl_str (pv 0) (po_some pe_int) po_none) (pa_cons (pe_glob (v := .int 1000000000) (by rfl) (by exact g_GREATEST_VALUE) ⟨_, rfl⟩) pa_nil))))
       (pss_cons (ps_if (pt_cmpR op_eq (pv 1) pe_int (nomark _)) (pss_one ps_never) pss_nil)
       (pss_one (ps_ret (pe_un un_neg (pv 1))))))), ?_⟩
    refine ⟨_, rfl, rfl, _, _, rfl, rfl, _, rfl, ?_⟩
    rw [starts_num]
    by_cases hv : v < 0
    · rw [decide_eq_true hv]
      refine iteF ?_
      have hl1 : 1 ≤ (num v).length := by rw [← cl_len, cl_neg hv, List.length_cons]; lia
      refine ⟨_, rfl, _, rfl, _, 1, rfl, rfl, rfl, hl1, sz1000 (by lia), (-v).toNat, 1000000000, by rw [drop_num hv]; rfl, by lia, .inr rfl, fun H1 s1 => ?_⟩
      refine ⟨_, rfl, rfl, _, rfl, ?_⟩
      refine iteNo (decide_eq_false fun z => ?_) ?_
      · injection z with z
        lia
      refine ⟨_, rfl, _, rfl, ?_⟩
      rw [show -(((-v).toNat : Nat) : Int) = v by lia]
      exact q H1 s1
    · rw [decide_eq_false hv]
      refine iteT ?_
      obtain ⟨n, rfl⟩ : ∃ n : Nat, v = ((n : Nat) : Int) := ⟨v.toNat, by lia⟩
      exact ⟨_, rfl, n, 1000000000, rfl, v1, .inr rfl, q⟩
theorem ok_rev {f C pM pK : Addr} {fd : FuncData} (F : Fun K "read_event" "read_event" s_read_event f fd) (B : Bl mg) (Z : ExcT K w mg C pM pK) (D_read_number : Df P w K mg base 1 "read_number" ["text", "greatest"] sp_rnum) (D_read_value : Df P w K mg base 2 "read_value" ["text"] sp_rval) : FnOk P w K mg base CX0 3 f fd ["word"] sp_rev := by
  have sc := sc_read_event
  obtain ⟨tG, g_GREATEST_LETTER⟩ := Z.c_GREATEST_LETTER
  refine F.ok sc (fun vs H Q E h => ?_) (fun cdv A outer s H vs Q E hr h => ?_)
  · obtain ⟨e, rfl, _⟩ := h
    rfl
  · obtain ⟨e, rfl, hE, q⟩ := h
    have hle := evT_len hE
    have hhd : (hdT e).length ≤ 1000 := by
      unfold evT at hle
      rw [strLen_append, strLen_append] at hle
      lia
    have hE0 := hE.l0
    have hE1 := hE.l1
    refine ⟨_, (pss_cons (ps_set (i := 1) sc.nd rfl (Or.inl rfl) (pe_bm PySem.F.plainAttrs_str PySem.F.slot_str_partition PySem.F.type_str_partition mt_spart (pv 0) (pa_cons pe_str pa_nil)))
       (pss_cons (ps_set (i := 2) sc.nd rfl (Or.inl rfl) (pe_df D_read_value (hr.mono (by decide)) (pa_cons (pe_ix ix_tup (pv 1) pe_int (fun _ _ => rfl)) pa_nil)))
       (pss_cons (ps_set (i := 3) sc.nd rfl (Or.inl rfl) (pe_ix ix_tup (pv 1) pe_int (fun _ _ => rfl)))
       (pss_cons (ps_if (pt_cmpR op_eq (pv 3) pe_str (nomark _)) (pss_one (ps_ret (pe_tup (pa_cons pe_str (pa_cons pe_int (pa_cons (pv 2) pa_nil)))))) pss_nil)
       (pss_cons (ps_if (pt_cmp (pc_knotin Z.d_KINDS (by rfl) Z.g_KINDS (pe_ix ix_str (pv 3) pe_int (fun _ _ => rfl)))) (pss_one ps_never) pss_nil)
       (pss_one (ps_ret (pe_tup (pa_cons (pe_kget Z.d_KINDS (by rfl) Z.g_KINDS (pe_ix ix_str (pv 3) pe_int (fun _ _ => rfl)) (fun _ _ => rfl)) (pa_cons (pe_df D_read_number (hr.mono (by decide)) (pa_cons (pe_slice sl_str (pv 3) (po_some pe_int) po_none) (pa_cons (pe_glob (v := .int 99) (by rfl) (by exact g_GREATEST_LETTER) ⟨_, rfl⟩) pa_nil))) (pa_cons (pv 2) pa_nil))))))))))), ?_⟩
    refine ⟨_, rfl, rfl, _, _, (hdT e, one 61, num e.v), rfl, rfl, (by decide +kernel), sz1000 (by lia), (by rw [lit_eq]; exact part_ev e), fun tp htp => ?_⟩
    have n1 := Same.new (o := .tup [V.str (hdT e), V.str (one 61), V.str (num e.v)]) htp
    have ht1 : L2.upd H tp (.tup [V.str (hdT e), V.str (one 61), V.str (num e.v)]) tp = some (.tup [V.str (hdT e), V.str (one 61), V.str (num e.v)]) := upd_same
    refine ⟨_, rfl, tp, _, 2, _, rfl, rfl, SqT.of ht1, rfl, e.v, rfl, hE.v0, hE.v1, fun H2 s2 => ?_⟩
    have s12 := n1.trans s2
    have ht2 := s2 _ _ ht1
    refine ⟨_, rfl, tp, _, 0, _, rfl, rfl, SqT.of ht2, rfl, ?_⟩
    refine ⟨_, rfl, rfl, _, rfl, ?_⟩
    by_cases hk : e.k = .own
    · refine iteT2 (by rw [hdT_own hk]) ?_
      refine ⟨_, rfl, (by show 3 ≤ sizeLine; decide), fun t ht => q t _ (s12.trans (Same.new ht)) ?_⟩
      have ev : e.vs = [V.str "own", V.int 0, V.int e.v] := by unfold Ev.vs; rw [hk, hE.own hk]; rfl
      rw [ev]
      exact upd_same
    · obtain ⟨c, eh, hkd⟩ := hdT_at hE hk
      have hat : atI (cl (hdT e)) 0 = some c := by
        rw [eh, cl_app]
        exact (show atI (c :: cl (num ((e.l.toNat : Nat) : Int))) ((0 : Nat) : Int) = some c from atI_nat rfl)
      refine iteNo (decide_eq_false fun z => ?_) ?_
      · injection z with z
        rw [eh] at z
        exact one_ne z
      refine ⟨_, rfl, _, 0, c, rfl, rfl, sz1000 hhd, hat, _, rfl, _, rfl, ?_⟩
      refine iteNo (by rw [hkd]; rfl) ?_
      have hl1 : 1 ≤ (hdT e).length := by rw [eh, strLen_append]; show 1 ≤ 1 + _; lia
      refine ⟨_, rfl, _, 0, c, rfl, rfl, sz1000 hhd, hat, _, _, rfl, hkd, _, rfl, _, rfl, _, 1, rfl, rfl, rfl, hl1, sz1000 hhd, e.l.toNat, 99, by rw [eh, drop_hd]; rfl, by lia, .inl rfl, fun H3 s3 => ⟨_, rfl, (by show 3 ≤ sizeLine; decide), fun t ht => q t _ ((s12.trans s3).trans (Same.new ht)) ?_⟩⟩
      have ev : e.vs = [V.str e.k.str, V.int ((e.l.toNat : Nat) : Int), V.int e.v] := by unfold Ev.vs; rw [show ((e.l.toNat : Nat) : Int) = e.l by lia]
      rw [ev]
      exact upd_same
theorem ok_rrow {f C pM pK : Addr} {fd : FuncData} (F : Fun K "read_row" "read_row" s_read_row f fd) (B : Bl mg) (Z : ExcT K w mg C pM pK) (D_read_event : Df P w K mg base 3 "read_event" ["word"] sp_rev) : FnOk P w K mg base CX0 4 f fd ["line"] sp_rrow := by
  have sc := sc_read_row
  obtain ⟨tG, g_MOST_EVENTS⟩ := Z.c_MOST_EVENTS
  refine F.ok sc (fun vs H Q E h => ?_) (fun cdv A outer s H vs Q E hr h => ?_)
  · obtain ⟨r, rfl, _⟩ := h
    rfl
  · obtain ⟨r, rfl, h6, hev, q⟩ := h
    have hlr := rowT_len h6 hev
    refine ⟨_, (pss_cons (ps_if (pt_cmpR op_eq (pv 0) pe_str (nomark _)) (pss_one (ps_ret (pe_lst pa_nil))) pss_nil)
       (pss_cons (ps_set (i := 1) sc.nd rfl (Or.inl rfl) (pe_bm PySem.F.plainAttrs_str PySem.F.slot_str_split PySem.F.type_str_split mt_ssplit (pv 0) (pa_cons pe_str pa_nil)))
       (pss_cons (ps_if (pt_cmpR op_gt (pe_callB call_len_seqI (by rfl) (B "len" (by decide +kernel)) bt_len (pa_cons (pv 1) pa_nil)) (pe_glob (v := .int 6) (by rfl) (by exact g_MOST_EVENTS) ⟨_, rfl⟩) (nomark _)) (pss_one ps_never) pss_nil)
       (pss_one (ps_ret (pe_lc (te := (tCall sp_rev [] E0 (tCons (tVar 0) tNil))) (tt := tTrue) (Blk.plain (ts := ["word"]) (by decide +kernel) (by decide +kernel) rfl (by decide +kernel)) rfl (pi_list (pv 1)) (fun _ _ _ _ => (pg_name (i := 0) (show List.Nodup (["word"] : List Str) by decide +kernel) rfl (Or.inl rfl))) (fun _ _ _ _ => pifs_nil) (fun _ _ _ _ => (pe_df D_read_event (hr.mono (by decide)) (pa_cons (pv 0) pa_nil))))))))), ?_⟩
    refine ⟨_, rfl, rfl, _, rfl, ?_⟩
    cases r with
    | nil =>
      refine iteT2 (by rw [rowT_nil]) ?_
      exact ⟨(by show 0 ≤ sizeLine; decide), fun l hl => q l _ (Same.new hl) hl ⟨[], upd_same, .nil⟩⟩
    | cons e0 r0 =>
      have hne : (e0 :: r0) ≠ [] := by simp
      refine iteNo (decide_eq_false fun z => rowT_ne (by injection z)) ?_
      generalize e0 :: r0 = r at hne h6 hev q hlr
      refine ⟨_, rfl, rfl, _, _, r.map evT, rfl, rfl, (by decide +kernel), sz1000 (by lia), (by rw [lit_sp]; exact split_row hne), sz1000 (by rw [List.length_map]; lia), fun wl hwl => ?_⟩
      have n1 := Same.new (o := .lst ((r.map evT).map V.str)) hwl
      have hw1 : L2.upd H wl (.lst ((r.map evT).map V.str)) wl = some (.lst ((r.map evT).map V.str)) := upd_same
      generalize L2.upd H wl (.lst ((r.map evT).map V.str)) = H1 at n1 hw1
      refine ⟨_, rfl, wl, _, rfl, .inl (SqL.of hw1), _, _, rfl, rfl, _, rfl, ?_⟩
      refine iteNo (decide_eq_false (by rw [List.length_map, List.length_map]; lia)) ?_
      refine ⟨_, rfl, wl, rfl, ⟨_, SqL.of hw1⟩, fun D hD => lc_list (K := K) (a := wl) (xs := (r.map evT).map V.str) (fun i σ ys H2 => ∃ v, σ = [v] ∧ Same H1 H2 ∧ H2 D = some (.lst ys) ∧ Paired (EvAt H2) ys (r.take i))
        ⟨_, rfl, Same.new hD, upd_same, .nil⟩ (fun i σ ys H2 _ ⟨v, _, s2, _⟩ => SqL.of (s2 _ _ hw1)) ?_ ?_⟩
      · rintro i y σ ys H2 hi ⟨v, rfl, s2, hD2, mp⟩
        obtain ⟨e, he, rfl⟩ : ∃ e, r[i]? = some e ∧ y = .str (evT e) := by
          rw [List.getElem?_map, List.getElem?_map] at hi
          cases hri : r[i]? with
          | none => rw [hri] at hi; cases hi
          | some e => rw [hri] at hi; exact ⟨e, rfl, (Option.some.inj hi).symm⟩
        have hil := lt_of_get he
        have hyl := Paired.length mp
        rw [List.length_take] at hyl
        refine ⟨_, rfl, e, rfl, hev e (List.mem_of_getElem? he), fun t H3 s3 ht => ?_⟩
        have hD3 := s3 _ _ hD2
        have nt : NoTup (fun b => b = D) H3 := fun b xs hb z => by rw [hb, hD3] at z; cases z
        have mp3 := Paired.mapP mp fun x e z => z.keep (S := fun _ => False) (fun b o e _ => s3 b o e) (fun _ _ z => z.elim)
        refine ⟨hD3, small1000 (by lia), _, rfl, (s2.trans s3).off hD, upd_same, ?_⟩
        rw [snoc_take he]
        refine Paired.snoc (Paired.mapP mp3 fun x e z => z.keep (S := fun b => b = D) (Kept.upd rfl) nt) ⟨t, rfl, ?_⟩
        rw [upd_ne (by rintro rfl; rw [hD3] at ht; cases ht)]
        exact ht
      · rintro σ ys H2 ⟨v, rfl, s2, hD2, mp⟩
        rw [List.length_map, List.length_map, List.take_length] at mp
        exact q D H2 (n1.trans s2) (n1.free hD) ⟨ys, hD2, mp⟩
theorem ok_read {f C pM pK : Addr} {fd : FuncData} (F : Fun K "read" "read" s_read f fd) (B : Bl mg) (Z : ExcT K w mg C pM pK) (D_read_row : Df P w K mg base 4 "read_row" ["line"] sp_rrow) (C_Record : Cf P w K mg base 4 C "Record" ["self", "rows"] (sp_init C)) : FnOk P w K mg base CX0 6 f fd ["note"] (sp_read C) := by
  have sc := sc_read
  obtain ⟨tG, g_MOST_LINES⟩ := Z.c_MOST_LINES
  refine F.ok sc (fun vs H Q E h => ?_) (fun cdv A outer s H vs Q E hr h => ?_)
  · obtain ⟨rs, rfl, _⟩ := h
    rfl
  · obtain ⟨rs, rfl, hV, q⟩ := h
    have hB := hV.bnd
    have hb4 := hB.hi
    have hlo := hB.lo
    have hne : rs ≠ [] := fun z => by rw [z] at hlo; exact absurd hlo (by decide)
    have hln := noteT_len hB
    refine ⟨_, (pss_cons (ps_set (i := 1) sc.nd rfl (Or.inl rfl) (pe_bm PySem.F.plainAttrs_str PySem.F.slot_str_split PySem.F.type_str_split mt_ssplit (pv 0) (pa_cons pe_str pa_nil)))
       (pss_cons (ps_if (pt_cmpR op_gt (pe_callB call_len_seqI (by rfl) (B "len" (by decide +kernel)) bt_len (pa_cons (pv 1) pa_nil)) (pe_glob (v := .int 4) (by rfl) (by exact g_MOST_LINES) ⟨_, rfl⟩) (nomark _)) (pss_one ps_never) pss_nil)
       (pss_one (ps_ret (pe_cf C_Record (hr.mono (by decide)) (pa_cons (pe_lc (te := (tCall sp_rrow [] E0 (tCons (tVar 0) tNil))) (tt := tTrue) (Blk.plain (ts := ["line"]) (by decide +kernel) (by decide +kernel) rfl (by decide +kernel)) rfl (pi_list (pv 1)) (fun _ _ _ _ => (pg_name (i := 0) (show List.Nodup (["line"] : List Str) by decide +kernel) rfl (Or.inl rfl))) (fun _ _ _ _ => pifs_nil) (fun _ _ _ _ => (pe_df D_read_row (hr.mono (by decide)) (pa_cons (pv 0) pa_nil)))) pa_nil)))))), ?_⟩
    refine ⟨_, rfl, rfl, _, _, rs.map rowT, rfl, rfl, (by decide +kernel), Nat.le_trans hln (by decide), (by rw [lit_nl]; exact split_note hne), sz1000 (by rw [List.length_map]; lia), fun wl hwl => ?_⟩
    have n1 := Same.new (o := .lst ((rs.map rowT).map V.str)) hwl
    have hw1 : L2.upd H wl (.lst ((rs.map rowT).map V.str)) wl = some (.lst ((rs.map rowT).map V.str)) := upd_same
    generalize L2.upd H wl (.lst ((rs.map rowT).map V.str)) = H1 at n1 hw1
    refine ⟨_, rfl, wl, _, rfl, .inl (SqL.of hw1), _, _, rfl, rfl, _, rfl, ?_⟩
    refine iteNo (decide_eq_false (by rw [List.length_map, List.length_map]; lia)) ?_
    refine ⟨_, rfl, wl, rfl, ⟨_, SqL.of hw1⟩, fun D hD => lc_list (K := K) (a := wl) (xs := (rs.map rowT).map V.str) (fun i σ ys H2 => ∃ (qs : List Addr) (v : Option V), σ = [v] ∧ ys = qs.map V.ref ∧ Same H1 H2 ∧ H2 D = some (.lst ys) ∧ Paired (RowA H2) qs (rs.take i) ∧ ∀ q ∈ qs, ¬ q = D)
      ⟨[], _, rfl, rfl, Same.new hD, upd_same, .nil, fun q hq => (nomatch hq)⟩ (fun i σ ys H2 _ ⟨qs, v, _, _, s2, _⟩ => SqL.of (s2 _ _ hw1)) ?_ ?_⟩
    · rintro i y σ ys H2 hi ⟨qs, v, rfl, rfl, s2, hD2, mp, nd⟩
      obtain ⟨r, he, rfl⟩ : ∃ r, rs[i]? = some r ∧ y = .str (rowT r) := by
        rw [List.getElem?_map, List.getElem?_map] at hi
        cases hri : rs[i]? with
        | none => rw [hri] at hi; cases hi
        | some e => rw [hri] at hi; exact ⟨e, rfl, (Option.some.inj hi).symm⟩
      have hil := lt_of_get he
      have hyl := Paired.length mp
      rw [List.length_take] at hyl
      obtain ⟨h6, hev⟩ := hB.ev (List.mem_of_getElem? he)
      refine ⟨_, rfl, r, rfl, h6, hev, fun p H3 s3 hp0 hrow => ?_⟩
      have hD3 := s3 _ _ hD2
      have pD : ¬ p = D := by rintro rfl; rw [hD2] at hp0; cases hp0
      have nt : NoTup (fun b => b = D) H3 := fun b xs hb z => by rw [hb, hD3] at z; cases z
      have kk : Kept (fun b => b = D) H3 (L2.upd H3 D (.lst (qs.map V.ref ++ [.ref p]))) := Kept.upd rfl
      refine ⟨hD3, small1000 (by rw [List.length_map]; lia), qs ++ [p], _, rfl, by rw [List.map_append]; rfl, (s2.trans s3).off hD, upd_same, ?_, fun b hb => ?_⟩
      · rw [snoc_take he]
        have mp3 : Paired (RowA H3) qs (rs.take i) := Paired.mapP mp fun x e z => z.keep (S := fun _ => False) (fun b o e _ => s3 b o e) (fun _ _ z => z.elim) (fun z => z)
        have gen : ∀ {ps : List Addr} {ts : Rows}, Paired (RowA H3) ps ts → (∀ b ∈ ps, ¬ b = D) → Paired (RowA (L2.upd H3 D (.lst (qs.map V.ref ++ [.ref p])))) ps ts := by
          intro ps ts m
          induction m with
          | nil => intro _; exact .nil
          | cons h t ih => intro hn; exact .cons (h.keep kk nt (hn _ (List.mem_cons_self ..))) (ih fun b hb => hn b (List.mem_cons_of_mem _ hb))
        exact Paired.snoc (gen mp3 nd) (hrow.keep kk nt pD)
      · rcases List.mem_append.mp hb with z | z
        · exact nd b z
        · rw [List.mem_singleton.mp z]; exact pD
    · rintro σ ys H2 ⟨qs, v, rfl, rfl, s2, hD2, mp, nd⟩
      rw [List.length_map, List.length_map, List.take_length] at mp
      intro x dx nx ndx nex
      have si : Same H2 (L2.upd (L2.upd H2 dx (.own x)) x (.ins C dx [])) := fun b o z => by
        rw [upd_ne (ne_of_none z nx), upd_ne (ne_of_none z ndx)]
        exact z
      have hR : RowsA H2 D qs rs := ⟨hD2, mp⟩
      exact ⟨x, dx, D, qs, rs, rfl, upd_same, hR.same si, hV, fun rr rqs sd td H3 K3 hRec f1 f2 f3 f4 => ⟨rfl, q x rr rqs sd td H3 ((n1.trans s2).trans fun b o z => K3 b o (si b o z) (ne_of_none z nx)) hRec⟩⟩
end
end Cw

set_option Elab.async false
set_option linter.all false
set_option maxRecDepth 100000
set_option maxHeartbeats 4000000
namespace Cw
open PySem L2
noncomputable abbrev s_law : Stmt := top 41
theorem sc_law : FnScope ["script", "rows", "note", "back"] ["script"] (defScope s_law) := ⟨rfl, rfl, rfl, by decide +kernel, rfl, by decide +kernel, by decide +kernel⟩

section
variable {P : Program} {w : World} {K : PySem.W.Frag} {mg : Str → Option Value} {base : Heap}
theorem ok_law {f C pM pK : Addr} {fd : FuncData} (F : Fun K "law" "law" s_law f fd) (B : Bl mg) (R : RecC K C) (Z : ExcT K w mg C pM pK) (D_law_record : Df P w K mg base 4 "_law_record" ["script", "most"] (sp_record K)) (D_law_copy : Df P w K mg base 1 "_law_copy" ["rows"] sp_copy)
    (C_Record : Cf P w K mg base 4 C "Record" ["self", "rows"] (sp_init C)) (D_shown : Df P w K mg base 3 "shown" ["record"] (sp_shown C)) (D_read : Df P w K mg base 6 "read" ["note"] (sp_read C)) (D_law_note : Df P w K mg base 1 "_law_note" ["rows"] sp_lnote) : FnOk P w K mg base CX0 7 f fd ["script"] (sp_law K) := by
  have sc := sc_law
  refine F.ok sc (fun vs H Q E h => ?_) (fun cdv A outer s H vs Q E hr h => ?_)
  · obtain ⟨a, ns, rfl, _⟩ := h
    rfl
  · obtain ⟨a, ns, rfl, hS, hlen, q⟩ := h
    refine ⟨_, (pss_cons (ps_set (i := 1) sc.nd rfl (Or.inl rfl) (pe_df D_law_record (hr.mono (by decide)) (pa_cons (pv 0) (pa_cons pe_int pa_nil))))
       (pss_cons (ps_set (i := 2) sc.nd rfl (Or.inl rfl) (pe_df D_shown (hr.mono (by decide)) (pa_cons (pe_cf C_Record (hr.mono (by decide)) (pa_cons (pe_df D_law_copy (hr.mono (by decide)) (pa_cons (pv 1) pa_nil)) pa_nil)) pa_nil)))
       (pss_cons (ps_if ((pw_or (pt_not (pt_val (pe_callB call_isinst (by rfl) (B "isinstance" (by decide +kernel)) bt_isinstance (pa_cons (pv 2) (pa_cons (pe_bltn (v := .ty "str") (by rfl) (B "str" (by decide +kernel)) bt_str rfl) pa_nil))))) (pw_or1 (pt_cmpR op_ne (pv 2) (pe_df D_law_note (hr.mono (by decide)) (pa_cons (pv 1) pa_nil)) (nomark _))))).pt (pss_one (ps_ret pe_bl)) pss_nil)
       (pss_cons (ps_set (i := 3) sc.nd rfl (Or.inl rfl) (pe_df D_read (hr.mono (by decide)) (pa_cons (pv 2) pa_nil)))
       (pss_one (ps_ret (pe_and (pe_callB call_isinstX (by rfl) (B "isinstance" (by decide +kernel)) bt_isinstance (pa_cons (pv 3) (pa_cons (pe_glob (v := .ref _) (by rfl) Z.m_Record rfl) pa_nil))) (pe_and (pe_cmpR (op_eqL ((EqOk.flat).tup).lst (un_of hr)) (pe_fld (pv 3) rfl) (pv 1) (nomark _)) (pe_one (pe_cmpR op_eq (pe_df D_shown (hr.mono (by decide)) (pa_cons (pv 3) pa_nil)) (pv 2) (nomark _))))))))))), ?_⟩
    refine ⟨_, rfl, a, ns, 24, rfl, hS, by decide, fun r ps rs H1 hV s1 hN htot => ?_⟩
    have hb4 := hV.bnd.hi
    refine ⟨_, rfl, r, ps, rs, rfl, hN.at_, by lia, fun h qs H2 s2 hN2 => ?_⟩
    intro x dx nx ndx nex
    have si : Same H2 (L2.upd (L2.upd H2 dx (.own x)) x (.ins C dx [])) := fun b o z => by
      rw [upd_ne (ne_of_none z nx), upd_ne (ne_of_none z ndx)]
      exact z
    refine ⟨x, dx, h, qs, rs, rfl, upd_same, hN2.at_.same si, hV, fun rr rqs sd td H3 K3 hRec f1 f2 f3 f4 => ⟨rfl, x, rr, sd, td, rqs, rs, rfl, hRec, fun H4 s4 => ?_⟩⟩
    have s3 : Same H2 H3 := fun b o z => K3 b o (si b o z) (ne_of_none z nx)
    have R4 := (hN.at_.same (s2.trans s3)).same s4
    clear hN hN2 K3 si nx ndx nex f1 f2 f3 f4 s1 s2 s3 s4 hRec
    refine ⟨_, rfl, _, _, _, true, rfl, .str _, rfl, true, rfl, ?_⟩
    refine iteF ?_
    refine ⟨_, rfl, _, rfl, r, ps, rs, rfl, R4, hV.bnd, fun H5 s5 => ⟨rfl, _, rfl, ?_⟩⟩
    refine iteNS rfl ?_
    refine ⟨_, rfl, rs, rfl, hV, fun x2 r2 qs2 sd2 td2 H6 s6 hRec2 => ?_⟩
    obtain ⟨dx2, hx2⟩ := hRec2.ob
    refine ⟨_, rfl, _, _, _, _, _, rfl, rfl, .of (.ins hx2 R.cl Z.r_cl Z.r_sp Z.r_tk Z.r_mo), Z.r_it, true, rfl, ?_⟩
    refine iteT ?_
    refine ⟨_, rfl, x2, C, dx2, _, _, rfl, hx2, R.cl, R.nR, rec_rows _ _ _, _, rfl, _, _, hRec2.rows.mean, (R4.same (s5.trans s6)).mean, _, rfl, ?_⟩
    refine iteT2 rfl ?_
    refine ⟨_, rfl, x2, r2, sd2, td2, qs2, rs, rfl, hRec2, fun H7 s7 => ⟨_, rfl, rfl, ?_⟩⟩
    rw [decide_eq_true (rfl : V.str (noteT rs) = V.str (noteT rs))]
    exact q _
end
theorem all_mk {l : PySem.W.OpenLaw} {w : World} {K : PySem.W.Frag} {h : Heap} {mg : Str → Option Value} {fa C pM pK : Addr} (X : K.In h) (G : h.Ns mainGlobals mg) (hfa : mg "law" = some (.ref fa))
    {t1 t2 t3 t4 t5 t6 t7 t8 u1 u2 u3 u4 u5 : Tok} {ep1 ep5 : Nat}
    {od1 an1 : Option Addr} {sl1 : Array (Option Value)} {oc1 kV1 dc1 pm1 cd1 ct1 : Value} {f1 : Addr}
    {od2 an2 : Option Addr} {sl2 : Array (Option Value)} {oc2 kV2 dc2 pm2 cd2 ct2 : Value} {f2 : Addr}
    {od3 an3 : Option Addr} {sl3 : Array (Option Value)} {oc3 kV3 dc3 pm3 cd3 ct3 : Value} {f3 : Addr}
    {od4 an4 : Option Addr} {sl4 : Array (Option Value)} {oc4 kV4 dc4 pm4 cd4 ct4 : Value} {f4 : Addr}
    {od5 an5 : Option Addr} {sl5 : Array (Option Value)} {oc5 kV5 dc5 pm5 cd5 ct5 : Value} {f5 : Addr}
    {od6 an6 : Option Addr} {sl6 : Array (Option Value)} {oc6 kV6 dc6 pm6 cd6 ct6 : Value} {f6 : Addr}
    {od7 an7 : Option Addr} {sl7 : Array (Option Value)} {oc7 kV7 dc7 pm7 cd7 ct7 : Value} {f7 : Addr}
    {od8 an8 : Option Addr} {sl8 : Array (Option Value)} {oc8 kV8 dc8 pm8 cd8 ct8 : Value} {f8 : Addr}
    {od9 an9 : Option Addr} {sl9 : Array (Option Value)} {oc9 kV9 dc9 pm9 cd9 ct9 : Value} {f9 : Addr}
    {od10 an10 : Option Addr} {sl10 : Array (Option Value)} {oc10 kV10 dc10 pm10 cd10 ct10 : Value} {f10 : Addr}
    {od11 an11 : Option Addr} {sl11 : Array (Option Value)} {oc11 kV11 dc11 pm11 cd11 ct11 : Value} {f11 : Addr}
    {od12 an12 : Option Addr} {sl12 : Array (Option Value)} {oc12 kV12 dc12 pm12 cd12 ct12 : Value} {f12 : Addr}
    {od13 an13 : Option Addr} {sl13 : Array (Option Value)} {oc13 kV13 dc13 pm13 cd13 ct13 : Value} {f13 : Addr}
    {od14 an14 : Option Addr} {sl14 : Array (Option Value)} {oc14 kV14 dc14 pm14 cd14 ct14 : Value} {f14 : Addr}
    {od15 an15 : Option Addr} {sl15 : Array (Option Value)} {oc15 kV15 dc15 pm15 cd15 ct15 : Value} {f15 : Addr}
    {od16 an16 : Option Addr} {sl16 : Array (Option Value)} {oc16 kV16 dc16 pm16 cd16 ct16 : Value} {f16 : Addr}
    {od17 an17 : Option Addr} {sl17 : Array (Option Value)} {oc17 kV17 dc17 pm17 cd17 ct17 : Value} {f17 : Addr}
    {od18 an18 : Option Addr} {sl18 : Array (Option Value)} {oc18 kV18 dc18 pm18 cd18 ct18 : Value} {f18 : Addr}
    {od19 an19 : Option Addr} {sl19 : Array (Option Value)} {oc19 kV19 dc19 pm19 cd19 ct19 : Value} {f19 : Addr}
    {od20 an20 : Option Addr} {sl20 : Array (Option Value)} {oc20 kV20 dc20 pm20 cd20 ct20 : Value} {f20 : Addr}
    {od21 an21 : Option Addr} {sl21 : Array (Option Value)} {oc21 kV21 dc21 pm21 cd21 ct21 : Value} {f21 : Addr}
    {od22 an22 : Option Addr} {sl22 : Array (Option Value)} {oc22 kV22 dc22 pm22 cd22 ct22 : Value} {f22 : Addr}
    (aC : PySem.W.nsIn K mainGlobals "Record" = some (some (.ref C)))
    (aMK : PySem.W.nsIn K mainGlobals "MARKS" = some (some (.ref pM)))
    (lMK : K.lookup pM = some ⟨.type "dict", none, .dict (List.toArray [⟨PyData.keyHash w.params "send", .str "send" t1, .str "!" t2⟩, ⟨PyData.keyHash w.params "take", .str "take" t3, .str "?" t4⟩]) ep1, #[]⟩)
    (smM : (pM == sysModules) = false)
    (aKN : PySem.W.nsIn K mainGlobals "KINDS" = some (some (.ref pK)))
    (lKN : K.lookup pK = some ⟨.type "dict", none, .dict (List.toArray [⟨PyData.keyHash w.params "!", .str "!" t5, .str "send" t6⟩, ⟨PyData.keyHash w.params "?", .str "?" t7, .str "take" t8⟩]) ep5, #[]⟩)
    (smK : (pK == sysModules) = false)
    (cF : PySem.W.nsIn K mainGlobals "FIGURES" = some (some (.str "0123456789" u1)))
    (cu2 : PySem.W.nsIn K mainGlobals "MOST_LINES" = some (some (.int 4 u2)))
    (cu3 : PySem.W.nsIn K mainGlobals "MOST_EVENTS" = some (some (.int 6 u3)))
    (cu4 : PySem.W.nsIn K mainGlobals "GREATEST_LETTER" = some (some (.int 99 u4)))
    (cu5 : PySem.W.nsIn K mainGlobals "GREATEST_VALUE" = some (some (.int 1000000000 u5)))
    (r_cl : PySem.W.findIn K (.ref C) "__class__" = some (some (.builtin "object.__class__")))
    (r_sp : PySem.W.specialIn K (.builtin "object.__class__") "__get__" = some (some (.builtin "getset_descriptor.__get__")))
    (r_tk : PySem.W.takesIn K (.builtin "object.__class__") = some true)
    (r_mo : PySem.W.mroIn K C (.type "object") = some true)
    (r_it : PySem.W.kitOne K (.ref C) (.ref C) = some true)
    (a1 : PySem.W.nsIn K mainGlobals "_law_cell_at" = some (some (.ref f1)))
    (l1 : K.lookup f1 = some ⟨oc1, od1, .func (PySem.W.fnOf "_law_cell_at" "_law_cell_at" (defArgs s_law_cell_at) (defBody s_law_cell_at) (defScope s_law_cell_at) .none kV1 dc1 pm1 an1 cd1 ct1), sl1⟩) (c1 : PySem.W.codeIn K cd1 "_law_cell_at" = true) (k1 : PySem.W.keepIn K (.ref f1) = true)
    (a2 : PySem.W.nsIn K mainGlobals "_law_draw" = some (some (.ref f2)))
    (l2 : K.lookup f2 = some ⟨oc2, od2, .func (PySem.W.fnOf "_law_draw" "_law_draw" (defArgs s_law_draw) (defBody s_law_draw) (defScope s_law_draw) .none kV2 dc2 pm2 an2 cd2 ct2), sl2⟩) (c2 : PySem.W.codeIn K cd2 "_law_draw" = true) (k2 : PySem.W.keepIn K (.ref f2) = true)
    (a3 : PySem.W.nsIn K mainGlobals "_law_value" = some (some (.ref f3)))
    (l3 : K.lookup f3 = some ⟨oc3, od3, .func (PySem.W.fnOf "_law_value" "_law_value" (defArgs s_law_value) (defBody s_law_value) (defScope s_law_value) .none kV3 dc3 pm3 an3 cd3 ct3), sl3⟩) (c3 : PySem.W.codeIn K cd3 "_law_value" = true) (k3 : PySem.W.keepIn K (.ref f3) = true)
    (a4 : PySem.W.nsIn K mainGlobals "_law_used" = some (some (.ref f4)))
    (l4 : K.lookup f4 = some ⟨oc4, od4, .func (PySem.W.fnOf "_law_used" "_law_used" (defArgs s_law_used) (defBody s_law_used) (defScope s_law_used) .none kV4 dc4 pm4 an4 cd4 ct4), sl4⟩) (c4 : PySem.W.codeIn K cd4 "_law_used" = true) (k4 : PySem.W.keepIn K (.ref f4) = true)
    (a5 : PySem.W.nsIn K mainGlobals "_law_record" = some (some (.ref f5)))
    (l5 : K.lookup f5 = some ⟨oc5, od5, .func (PySem.W.fnOf "_law_record" "_law_record" (defArgs s_law_record) (defBody s_law_record) (defScope s_law_record) .none kV5 dc5 pm5 an5 cd5 ct5), sl5⟩) (c5 : PySem.W.codeIn K cd5 "_law_record" = true) (k5 : PySem.W.keepIn K (.ref f5) = true)
    (a6 : PySem.W.nsIn K mainGlobals "_law_copy" = some (some (.ref f6)))
    (l6 : K.lookup f6 = some ⟨oc6, od6, .func (PySem.W.fnOf "_law_copy" "_law_copy" (defArgs s_law_copy) (defBody s_law_copy) (defScope s_law_copy) .none kV6 dc6 pm6 an6 cd6 ct6), sl6⟩) (c6 : PySem.W.codeIn K cd6 "_law_copy" = true) (k6 : PySem.W.keepIn K (.ref f6) = true)
    (a7 : PySem.W.nsIn K mainGlobals "letter_places" = some (some (.ref f7)))
    (l7 : K.lookup f7 = some ⟨oc7, od7, .func (PySem.W.fnOf "letter_places" "letter_places" (defArgs s_letter_places) (defBody s_letter_places) (defScope s_letter_places) .none kV7 dc7 pm7 an7 cd7 ct7), sl7⟩) (c7 : PySem.W.codeIn K cd7 "letter_places" = true) (k7 : PySem.W.keepIn K (.ref f7) = true)
    (a8 : PySem.W.nsIn K mainGlobals "check_sent" = some (some (.ref f8)))
    (l8 : K.lookup f8 = some ⟨oc8, od8, .func (PySem.W.fnOf "check_sent" "check_sent" (defArgs s_check_sent) (defBody s_check_sent) (defScope s_check_sent) .none kV8 dc8 pm8 an8 cd8 ct8), sl8⟩) (c8 : PySem.W.codeIn K cd8 "check_sent" = true) (k8 : PySem.W.keepIn K (.ref f8) = true)
    (a9 : PySem.W.nsIn K mainGlobals "can_be_done" = some (some (.ref f9)))
    (l9 : K.lookup f9 = some ⟨oc9, od9, .func (PySem.W.fnOf "can_be_done" "can_be_done" (defArgs s_can_be_done) (defBody s_can_be_done) (defScope s_can_be_done) .none kV9 dc9 pm9 an9 cd9 ct9), sl9⟩) (c9 : PySem.W.codeIn K cd9 "can_be_done" = true) (k9 : PySem.W.keepIn K (.ref f9) = true)
    (a10 : PySem.W.nsIn K mainGlobals "counts_done" = some (some (.ref f10)))
    (l10 : K.lookup f10 = some ⟨oc10, od10, .func (PySem.W.fnOf "counts_done" "counts_done" (defArgs s_counts_done) (defBody s_counts_done) (defScope s_counts_done) .none kV10 dc10 pm10 an10 cd10 ct10), sl10⟩) (c10 : PySem.W.codeIn K cd10 "counts_done" = true) (k10 : PySem.W.keepIn K (.ref f10) = true)
    (a11 : PySem.W.nsIn K mainGlobals "find_ring" = some (some (.ref f11)))
    (l11 : K.lookup f11 = some ⟨oc11, od11, .func (PySem.W.fnOf "find_ring" "find_ring" (defArgs s_find_ring) (defBody s_find_ring) (defScope s_find_ring) .none kV11 dc11 pm11 an11 cd11 ct11), sl11⟩) (c11 : PySem.W.codeIn K cd11 "find_ring" = true) (k11 : PySem.W.keepIn K (.ref f11) = true)
    (a12 : PySem.W.findIn K (.ref C) "__init__" = some (some (.ref f12))) (i12 : PySem.W.isFn K (.ref f12) = true)
    (l12 : K.lookup f12 = some ⟨oc12, od12, .func (PySem.W.fnOf "__init__" "Record.__init__" (defArgs s_Record_init) (defBody s_Record_init) (defScope s_Record_init) .none kV12 dc12 pm12 an12 cd12 ct12), sl12⟩) (c12 : PySem.W.codeIn K cd12 "Record.__init__" = true) (k12 : PySem.W.keepIn K (.ref f12) = true)
    (a13 : PySem.W.nsIn K mainGlobals "shown_event" = some (some (.ref f13)))
    (l13 : K.lookup f13 = some ⟨oc13, od13, .func (PySem.W.fnOf "shown_event" "shown_event" (defArgs s_shown_event) (defBody s_shown_event) (defScope s_shown_event) .none kV13 dc13 pm13 an13 cd13 ct13), sl13⟩) (c13 : PySem.W.codeIn K cd13 "shown_event" = true) (k13 : PySem.W.keepIn K (.ref f13) = true)
    (a14 : PySem.W.nsIn K mainGlobals "shown_row" = some (some (.ref f14)))
    (l14 : K.lookup f14 = some ⟨oc14, od14, .func (PySem.W.fnOf "shown_row" "shown_row" (defArgs s_shown_row) (defBody s_shown_row) (defScope s_shown_row) .none kV14 dc14 pm14 an14 cd14 ct14), sl14⟩) (c14 : PySem.W.codeIn K cd14 "shown_row" = true) (k14 : PySem.W.keepIn K (.ref f14) = true)
    (a15 : PySem.W.nsIn K mainGlobals "shown" = some (some (.ref f15)))
    (l15 : K.lookup f15 = some ⟨oc15, od15, .func (PySem.W.fnOf "shown" "shown" (defArgs s_shown) (defBody s_shown) (defScope s_shown) .none kV15 dc15 pm15 an15 cd15 ct15), sl15⟩) (c15 : PySem.W.codeIn K cd15 "shown" = true) (k15 : PySem.W.keepIn K (.ref f15) = true)
    (a16 : PySem.W.nsIn K mainGlobals "read_number" = some (some (.ref f16)))
    (l16 : K.lookup f16 = some ⟨oc16, od16, .func (PySem.W.fnOf "read_number" "read_number" (defArgs s_read_number) (defBody s_read_number) (defScope s_read_number) .none kV16 dc16 pm16 an16 cd16 ct16), sl16⟩) (c16 : PySem.W.codeIn K cd16 "read_number" = true) (k16 : PySem.W.keepIn K (.ref f16) = true)
    (a17 : PySem.W.nsIn K mainGlobals "read_value" = some (some (.ref f17)))
    (l17 : K.lookup f17 = some ⟨oc17, od17, .func (PySem.W.fnOf "read_value" "read_value" (defArgs s_read_value) (defBody s_read_value) (defScope s_read_value) .none kV17 dc17 pm17 an17 cd17 ct17), sl17⟩) (c17 : PySem.W.codeIn K cd17 "read_value" = true) (k17 : PySem.W.keepIn K (.ref f17) = true)
    (a18 : PySem.W.nsIn K mainGlobals "read_event" = some (some (.ref f18)))
    (l18 : K.lookup f18 = some ⟨oc18, od18, .func (PySem.W.fnOf "read_event" "read_event" (defArgs s_read_event) (defBody s_read_event) (defScope s_read_event) .none kV18 dc18 pm18 an18 cd18 ct18), sl18⟩) (c18 : PySem.W.codeIn K cd18 "read_event" = true) (k18 : PySem.W.keepIn K (.ref f18) = true)
    (a19 : PySem.W.nsIn K mainGlobals "read_row" = some (some (.ref f19)))
    (l19 : K.lookup f19 = some ⟨oc19, od19, .func (PySem.W.fnOf "read_row" "read_row" (defArgs s_read_row) (defBody s_read_row) (defScope s_read_row) .none kV19 dc19 pm19 an19 cd19 ct19), sl19⟩) (c19 : PySem.W.codeIn K cd19 "read_row" = true) (k19 : PySem.W.keepIn K (.ref f19) = true)
    (a20 : PySem.W.nsIn K mainGlobals "read" = some (some (.ref f20)))
    (l20 : K.lookup f20 = some ⟨oc20, od20, .func (PySem.W.fnOf "read" "read" (defArgs s_read) (defBody s_read) (defScope s_read) .none kV20 dc20 pm20 an20 cd20 ct20), sl20⟩) (c20 : PySem.W.codeIn K cd20 "read" = true) (k20 : PySem.W.keepIn K (.ref f20) = true)
    (a21 : PySem.W.nsIn K mainGlobals "_law_note" = some (some (.ref f21)))
    (l21 : K.lookup f21 = some ⟨oc21, od21, .func (PySem.W.fnOf "_law_note" "_law_note" (defArgs s_law_note) (defBody s_law_note) (defScope s_law_note) .none kV21 dc21 pm21 an21 cd21 ct21), sl21⟩) (c21 : PySem.W.codeIn K cd21 "_law_note" = true) (k21 : PySem.W.keepIn K (.ref f21) = true)
    (a22 : PySem.W.nsIn K mainGlobals "law" = some (some (.ref f22)))
    (l22 : K.lookup f22 = some ⟨oc22, od22, .func (PySem.W.fnOf "law" "law" (defArgs s_law) (defBody s_law) (defScope s_law) .none kV22 dc22 pm22 an22 cd22 ct22), sl22⟩) (c22 : PySem.W.codeIn K cd22 "law" = true) (k22 : PySem.W.keepIn K (.ref f22) = true)
    (pg : PySem.W.plainGet K C Str.empty = true) (hd : PySem.W.hasDictIn K C = true) (po : PySem.W.plainOver K C = true) (sa : PySem.W.findIn K (.ref C) "__setattr__" = some (some (.builtin "object.__setattr__"))) (mk : PySem.W.makesIn K C = true) (kc : PySem.W.keepIn K (.ref C) = true)
    (n_rows : PySem.W.findIn K (.ref C) "rows" = some none)
    (n_sends : PySem.W.findIn K (.ref C) "sends" = some none)
    (n_takes : PySem.W.findIn K (.ref C) "takes" = some none)
    (z_len : PySem.W.nsIn K mainGlobals "len" = some none)
    (z_range : PySem.W.nsIn K mainGlobals "range" = some none)
    (z_enumerate : PySem.W.nsIn K mainGlobals "enumerate" = some none)
    (z_list : PySem.W.nsIn K mainGlobals "list" = some none)
    (z_tuple : PySem.W.nsIn K mainGlobals "tuple" = some none)
    (z_isinstance : PySem.W.nsIn K mainGlobals "isinstance" = some none)
    (z_int : PySem.W.nsIn K mainGlobals "int" = some none)
    (z_bool : PySem.W.nsIn K mainGlobals "bool" = some none)
    (z_str : PySem.W.nsIn K mainGlobals "str" = some none)
    (z_min : PySem.W.nsIn K mainGlobals "min" = some none)
    (z_max : PySem.W.nsIn K mainGlobals "max" = some none)
    (z_sum : PySem.W.nsIn K mainGlobals "sum" = some none)
    (z_sorted : PySem.W.nsIn K mainGlobals "sorted" = some none)
    (z_reversed : PySem.W.nsIn K mainGlobals "reversed" = some none)
    (z_zip : PySem.W.nsIn K mainGlobals "zip" = some none)
    (z_any : PySem.W.nsIn K mainGlobals "any" = some none)
    (z_all : PySem.W.nsIn K mainGlobals "all" = some none) :
    ∃ fd : FuncData, (∀ (s : Shared) (v : Value), BindsTo s fd ⟨[v], []⟩ [("script", v)]) ∧ ∀ base : Heap, K.In base → base.Ns mainGlobals mg → FnOk l.prog w K mg base CX0 7 fa fd ["script"] (sp_law K) := by
  have e := hfa.symm.trans (PySem.W.mg_of X G a22)
  cases e
  have B : Bl mg := fun x hx => by
    rcases List.mem_cons.mp hx with rfl | hx
    · exact PySem.W.mg_none_of X G z_len
    rcases List.mem_cons.mp hx with rfl | hx
    · exact PySem.W.mg_none_of X G z_range
    rcases List.mem_cons.mp hx with rfl | hx
    · exact PySem.W.mg_none_of X G z_enumerate
    rcases List.mem_cons.mp hx with rfl | hx
    · exact PySem.W.mg_none_of X G z_list
    rcases List.mem_cons.mp hx with rfl | hx
    · exact PySem.W.mg_none_of X G z_tuple
    rcases List.mem_cons.mp hx with rfl | hx
    · exact PySem.W.mg_none_of X G z_isinstance
    rcases List.mem_cons.mp hx with rfl | hx
    · exact PySem.W.mg_none_of X G z_int
    rcases List.mem_cons.mp hx with rfl | hx
    · exact PySem.W.mg_none_of X G z_bool
    rcases List.mem_cons.mp hx with rfl | hx
    · exact PySem.W.mg_none_of X G z_str
    rcases List.mem_cons.mp hx with rfl | hx
    · exact PySem.W.mg_none_of X G z_min
    rcases List.mem_cons.mp hx with rfl | hx
    · exact PySem.W.mg_none_of X G z_max
    rcases List.mem_cons.mp hx with rfl | hx
    · exact PySem.W.mg_none_of X G z_sum
    rcases List.mem_cons.mp hx with rfl | hx
    · exact PySem.W.mg_none_of X G z_sorted
    rcases List.mem_cons.mp hx with rfl | hx
    · exact PySem.W.mg_none_of X G z_reversed
    rcases List.mem_cons.mp hx with rfl | hx
    · exact PySem.W.mg_none_of X G z_zip
    rcases List.mem_cons.mp hx with rfl | hx
    · exact PySem.W.mg_none_of X G z_any
    rcases List.mem_cons.mp hx with rfl | hx
    · exact PySem.W.mg_none_of X G z_all
    cases hx
  have R : RecC K C := ⟨⟨pg, hd, po, sa⟩, n_rows, n_sends, n_takes⟩
  have Z : ExcT K w mg C pM pK := ⟨PySem.W.mg_of X G aC, PySem.W.mg_of X G aMK, PySem.W.mg_of X G aKN, ⟨by decide +kernel, smM, t1, t2, t3, t4, ep1, lMK⟩, ⟨by decide +kernel, smK, t5, t6, t7, t8, ep5, lKN⟩, ⟨u1, PySem.W.mg_of X G cF⟩, ⟨u2, PySem.W.mg_of X G cu2⟩, ⟨u3, PySem.W.mg_of X G cu3⟩, ⟨u4, PySem.W.mg_of X G cu4⟩, ⟨u5, PySem.W.mg_of X G cu5⟩, r_cl, r_sp, r_tk, r_mo, r_it⟩
  have F1 := fun_mk (st := s_law_cell_at) l1 c1 k1
  have b1 := F1.binds (ps := ["script", "k"]) fun _ _ _ _ _ _ us hl => by obtain ⟨_, _, rfl⟩ := len_2 hl; rfl
  have F2 := fun_mk (st := s_law_draw) l2 c2 k2
  have b2 := F2.binds (ps := ["script", "k"]) fun _ _ _ _ _ _ us hl => by obtain ⟨_, _, rfl⟩ := len_2 hl; rfl
  have F3 := fun_mk (st := s_law_value) l3 c3 k3
  have b3 := F3.binds (ps := ["script", "k"]) fun _ _ _ _ _ _ us hl => by obtain ⟨_, _, rfl⟩ := len_2 hl; rfl
  have F4 := fun_mk (st := s_law_used) l4 c4 k4
  have b4 := F4.binds (ps := ["rows", "letter"]) fun _ _ _ _ _ _ us hl => by obtain ⟨_, _, rfl⟩ := len_2 hl; rfl
  have F5 := fun_mk (st := s_law_record) l5 c5 k5
  have b5 := F5.binds (ps := ["script", "most"]) fun _ _ _ _ _ _ us hl => by obtain ⟨_, _, rfl⟩ := len_2 hl; rfl
  have F6 := fun_mk (st := s_law_copy) l6 c6 k6
  have b6 := F6.binds (ps := ["rows"]) fun _ _ _ _ _ _ us hl => by obtain ⟨_, rfl⟩ := len_1 hl; rfl
  have F7 := fun_mk (st := s_letter_places) l7 c7 k7
  have b7 := F7.binds (ps := ["rows", "kind"]) fun _ _ _ _ _ _ us hl => by obtain ⟨_, _, rfl⟩ := len_2 hl; rfl
  have F8 := fun_mk (st := s_check_sent) l8 c8 k8
  have b8 := F8.binds (ps := ["sends", "takes"]) fun _ _ _ _ _ _ us hl => by obtain ⟨_, _, rfl⟩ := len_2 hl; rfl
  have F9 := fun_mk (st := s_can_be_done) l9 c9 k9
  have b9 := F9.binds (ps := ["event", "sends", "counts"]) fun _ _ _ _ _ _ us hl => by obtain ⟨_, _, _, rfl⟩ := len_3 hl; rfl
  have F10 := fun_mk (st := s_counts_done) l10 c10 k10
  have b10 := F10.binds (ps := ["rows", "sends"]) fun _ _ _ _ _ _ us hl => by obtain ⟨_, _, rfl⟩ := len_2 hl; rfl
  have F11 := fun_mk (st := s_find_ring) l11 c11 k11
  have b11 := F11.binds (ps := ["rows", "sends"]) fun _ _ _ _ _ _ us hl => by obtain ⟨_, _, rfl⟩ := len_2 hl; rfl
  have F12 := fun_mk (st := s_Record_init) l12 c12 k12
  have b12 := F12.binds (ps := ["self", "rows"]) fun _ _ _ _ _ _ us hl => by obtain ⟨_, _, rfl⟩ := len_2 hl; rfl
  have F13 := fun_mk (st := s_shown_event) l13 c13 k13
  have b13 := F13.binds (ps := ["event"]) fun _ _ _ _ _ _ us hl => by obtain ⟨_, rfl⟩ := len_1 hl; rfl
  have F14 := fun_mk (st := s_shown_row) l14 c14 k14
  have b14 := F14.binds (ps := ["row"]) fun _ _ _ _ _ _ us hl => by obtain ⟨_, rfl⟩ := len_1 hl; rfl
  have F15 := fun_mk (st := s_shown) l15 c15 k15
  have b15 := F15.binds (ps := ["record"]) fun _ _ _ _ _ _ us hl => by obtain ⟨_, rfl⟩ := len_1 hl; rfl
  have F16 := fun_mk (st := s_read_number) l16 c16 k16
  have b16 := F16.binds (ps := ["text", "greatest"]) fun _ _ _ _ _ _ us hl => by obtain ⟨_, _, rfl⟩ := len_2 hl; rfl
  have F17 := fun_mk (st := s_read_value) l17 c17 k17
  have b17 := F17.binds (ps := ["text"]) fun _ _ _ _ _ _ us hl => by obtain ⟨_, rfl⟩ := len_1 hl; rfl
  have F18 := fun_mk (st := s_read_event) l18 c18 k18
  have b18 := F18.binds (ps := ["word"]) fun _ _ _ _ _ _ us hl => by obtain ⟨_, rfl⟩ := len_1 hl; rfl
  have F19 := fun_mk (st := s_read_row) l19 c19 k19
  have b19 := F19.binds (ps := ["line"]) fun _ _ _ _ _ _ us hl => by obtain ⟨_, rfl⟩ := len_1 hl; rfl
  have F20 := fun_mk (st := s_read) l20 c20 k20
  have b20 := F20.binds (ps := ["note"]) fun _ _ _ _ _ _ us hl => by obtain ⟨_, rfl⟩ := len_1 hl; rfl
  have F21 := fun_mk (st := s_law_note) l21 c21 k21
  have b21 := F21.binds (ps := ["rows"]) fun _ _ _ _ _ _ us hl => by obtain ⟨_, rfl⟩ := len_1 hl; rfl
  have F22 := fun_mk (st := s_law) l22 c22 k22
  have b22 := F22.binds (ps := ["script"]) fun _ _ _ _ _ _ us hl => by obtain ⟨_, rfl⟩ := len_1 hl; rfl
  refine ⟨PySem.W.fnOf "law" "law" (defArgs s_law) (defBody s_law) (defScope s_law) .none kV22 dc22 pm22 an22 cd22 ct22, fun s v => .of_eq rfl, fun base _ _ => ?_⟩
  have D_law_cell_at : Df l.prog w K mg base 1 "_law_cell_at" ["script", "k"] (sp_cell K) := ⟨⟨f1, _, PySem.W.mg_of X G a1, k1, b1, ok_cell F1 B ⟩⟩
  have D_law_draw : Df l.prog w K mg base 2 "_law_draw" ["script", "k"] (sp_draw K) := ⟨⟨f2, _, PySem.W.mg_of X G a2, k2, b2, ok_draw F2 B D_law_cell_at⟩⟩
  have D_law_value : Df l.prog w K mg base 3 "_law_value" ["script", "k"] (sp_value K) := ⟨⟨f3, _, PySem.W.mg_of X G a3, k3, b3, ok_value F3 B D_law_cell_at D_law_draw⟩⟩
  have D_law_used : Df l.prog w K mg base 1 "_law_used" ["rows", "letter"] sp_used := ⟨⟨f4, _, PySem.W.mg_of X G a4, k4, b4, ok_used F4 B ⟩⟩
  have D_law_record : Df l.prog w K mg base 4 "_law_record" ["script", "most"] (sp_record K) := ⟨⟨f5, _, PySem.W.mg_of X G a5, k5, b5, ok_record F5 B D_law_cell_at D_law_draw D_law_value D_law_used⟩⟩
  have D_law_copy : Df l.prog w K mg base 1 "_law_copy" ["rows"] sp_copy := ⟨⟨f6, _, PySem.W.mg_of X G a6, k6, b6, ok_copy F6 B ⟩⟩
  have D_letter_places : Df l.prog w K mg base 1 "letter_places" ["rows", "kind"] sp_places := ⟨⟨f7, _, PySem.W.mg_of X G a7, k7, b7, ok_places F7 B ⟩⟩
  have D_check_sent : Df l.prog w K mg base 1 "check_sent" ["sends", "takes"] sp_check := ⟨⟨f8, _, PySem.W.mg_of X G a8, k8, b8, ok_check F8 B ⟩⟩
  have D_can_be_done : Df l.prog w K mg base 1 "can_be_done" ["event", "sends", "counts"] sp_can := ⟨⟨f9, _, PySem.W.mg_of X G a9, k9, b9, ok_can F9 B ⟩⟩
  have D_can_be_doneS : Df l.prog w K mg base 1 "can_be_done" ["event", "sends", "counts"] (sp_canS K) := ⟨⟨f9, _, PySem.W.mg_of X G a9, k9, b9, ok_canS F9 B⟩⟩
  have D_counts_done : Df l.prog w K mg base 2 "counts_done" ["rows", "sends"] sp_done := ⟨⟨f10, _, PySem.W.mg_of X G a10, k10, b10, ok_done F10 B D_can_be_done⟩⟩
  have D_find_ring : Df l.prog w K mg base 3 "find_ring" ["rows", "sends"] sp_noring := ⟨⟨f11, _, PySem.W.mg_of X G a11, k11, b11, ok_noring F11 B D_counts_done⟩⟩
  have C_Record : Cf l.prog w K mg base 4 C "Record" ["self", "rows"] (sp_init C) := ⟨⟨f12, _, PySem.W.mg_of X G aC, ⟨mk, a12, i12, kc⟩, b12, ok_init F12 B R D_letter_places D_check_sent D_find_ring⟩⟩
  have D_shown_event : Df l.prog w K mg base 1 "shown_event" ["event"] sp_shev := ⟨⟨f13, _, PySem.W.mg_of X G a13, k13, b13, ok_shev F13 B Z⟩⟩
  have D_shown_row : Df l.prog w K mg base 2 "shown_row" ["row"] sp_shrow := ⟨⟨f14, _, PySem.W.mg_of X G a14, k14, b14, ok_shrow F14 B D_shown_event⟩⟩
  have D_shown : Df l.prog w K mg base 3 "shown" ["record"] (sp_shown C) := ⟨⟨f15, _, PySem.W.mg_of X G a15, k15, b15, ok_shown F15 B R D_shown_row⟩⟩
  have D_read_number : Df l.prog w K mg base 1 "read_number" ["text", "greatest"] sp_rnum := ⟨⟨f16, _, PySem.W.mg_of X G a16, k16, b16, ok_rnum F16 B Z⟩⟩
  have D_read_value : Df l.prog w K mg base 2 "read_value" ["text"] sp_rval := ⟨⟨f17, _, PySem.W.mg_of X G a17, k17, b17, ok_rval F17 B Z D_read_number⟩⟩
  have D_read_event : Df l.prog w K mg base 3 "read_event" ["word"] sp_rev := ⟨⟨f18, _, PySem.W.mg_of X G a18, k18, b18, ok_rev F18 B Z D_read_number D_read_value⟩⟩
  have D_read_row : Df l.prog w K mg base 4 "read_row" ["line"] sp_rrow := ⟨⟨f19, _, PySem.W.mg_of X G a19, k19, b19, ok_rrow F19 B Z D_read_event⟩⟩
  have D_read : Df l.prog w K mg base 6 "read" ["note"] (sp_read C) := ⟨⟨f20, _, PySem.W.mg_of X G a20, k20, b20, ok_read F20 B Z D_read_row C_Record⟩⟩
  have D_law_note : Df l.prog w K mg base 1 "_law_note" ["rows"] sp_lnote := ⟨⟨f21, _, PySem.W.mg_of X G a21, k21, b21, ok_lnote F21 B ⟩⟩
  exact ok_law F22 B R Z D_law_record D_law_copy C_Record D_shown D_read D_law_note
theorem walk {l : PySem.W.OpenLaw} {q : Program} {loose : List Str} {XP : (Str → Option Value) → Heap → Prop} {YP : World → Heap → Prop} {d : DefRec} {K : Params → PySem.W.Frag} (hn : l.most = some 63) (hdf : d.params.defaults = [])
    (hY : ∀ (w : World) (h : Heap), YP w h → (K w.params).In h)
    (F : ∀ (w : World) (mg : Str → Option Value) (fa : Addr) (h : Heap), (K w.params).In h → h.Ns mainGlobals mg → mg d.name = some (.ref fa) →
      ∃ fd : FuncData, (∀ (s : Shared) (u : Value), BindsTo s fd ⟨[u], []⟩ [("script", u)]) ∧ ∀ base : Heap, (K w.params).In base → base.Ns mainGlobals mg → FnOk l.prog w (K w.params) mg base CX0 7 fa fd ["script"] (sp_law (K w.params))) :
    PySem.W.WalkO q loose XP YP l.row.toRowW d [] (fun f vs => PySem.call f vs) :=
  L2.walk_of (n := 63) (k := 7) (x := "script") (CX := fun _ => CX0) (sp := fun w => sp_law (K w.params)) hn (by decide) hdf ⟨rfl, by decide, by decide, rfl⟩ hY F (fun _ _ a ns hl _ hS => ⟨a, ns, rfl, hS, hl, fun _ => rfl⟩) fun _ _ _ _ _ z => z
end Cw
open PySem PySem.W PyProof.Rows
set_option maxRecDepth 100000 in
set_option maxHeartbeats 0 in
theorem PySem.Challenge.cw_cutway_k17_written_and_read_holds : PySem.Challenge.rw_cutway_k17_written_and_read.Holds := by
  w_on; o_law; k_head; (case hw => w_witness2)
  k_fill
  refine Cw.walk (l := PySem.Challenge.rw_cutway_k17_written_and_read) rfl rfl (fun w h Y => PySem.W.kIn_of Y) ?F
  case F =>
    intro w mg fa h KX G hmg
    refine' Cw.all_mk KX G hmg ?aC ?aMK ?lMK ?smM ?aKN ?lKN ?smK ?cF ?cu2 ?cu3 ?cu4 ?cu5 ?r_cl ?r_sp ?r_tk ?r_mo ?r_it ?a1 ?l1 ?c1 ?k1 ?a2 ?l2 ?c2 ?k2 ?a3 ?l3 ?c3 ?k3 ?a4 ?l4 ?c4 ?k4 ?a5 ?l5 ?c5 ?k5 ?a6 ?l6 ?c6 ?k6 ?a7 ?l7 ?c7 ?k7 ?a8 ?l8 ?c8 ?k8 ?a9 ?l9 ?c9 ?k9 ?a10 ?l10 ?c10 ?k10 ?a11 ?l11 ?c11 ?k11 ?a12 ?i12 ?l12 ?c12 ?k12 ?a13 ?l13 ?c13 ?k13 ?a14 ?l14 ?c14 ?k14 ?a15 ?l15 ?c15 ?k15 ?a16 ?l16 ?c16 ?k16 ?a17 ?l17 ?c17 ?k17 ?a18 ?l18 ?c18 ?k18 ?a19 ?l19 ?c19 ?k19 ?a20 ?l20 ?c20 ?k20 ?a21 ?l21 ?c21 ?k21 ?a22 ?l22 ?c22 ?k22 ?pg ?hd ?po ?sa ?mk ?kc ?n_rows ?n_sends ?n_takes ?z_len ?z_range ?z_enumerate ?z_list ?z_tuple ?z_isinstance ?z_int ?z_bool ?z_str ?z_min ?z_max ?z_sum ?z_sorted ?z_reversed ?z_zip ?z_any ?z_all
    (case aC => k_is)
    (case aMK => k_is)
    (case lMK => k_is)
    (case smM => decide +kernel)
    (case aKN => k_is)
    (case lKN => k_is)
    (case smK => decide +kernel)
    (case cF => k_is)
    (case cu2 => k_is)
    (case cu3 => k_is)
    (case cu4 => k_is)
    (case cu5 => k_is)
    (case r_cl => k_is)
    (case r_sp => k_is)
    (case r_tk => k_is)
    (case r_mo => k_is)
    (case r_it => kit_is)
    (case a1 => k_is)
    (case l1 => k_is)
    (case c1 => k_is)
    (case k1 => k_is)
    (case a2 => k_is)
    (case l2 => k_is)
    (case c2 => k_is)
    (case k2 => k_is)
    (case a3 => k_is)
    (case l3 => k_is)
    (case c3 => k_is)
    (case k3 => k_is)
    (case a4 => k_is)
    (case l4 => k_is)
    (case c4 => k_is)
    (case k4 => k_is)
    (case a5 => k_is)
    (case l5 => k_is)
    (case c5 => k_is)
    (case k5 => k_is)
    (case a6 => k_is)
    (case l6 => k_is)
    (case c6 => k_is)
    (case k6 => k_is)
    (case a7 => k_is)
    (case l7 => k_is)
    (case c7 => k_is)
    (case k7 => k_is)
    (case a8 => k_is)
    (case l8 => k_is)
    (case c8 => k_is)
    (case k8 => k_is)
    (case a9 => k_is)
    (case l9 => k_is)
    (case c9 => k_is)
    (case k9 => k_is)
    (case a10 => k_is)
    (case l10 => k_is)
    (case c10 => k_is)
    (case k10 => k_is)
    (case a11 => k_is)
    (case l11 => k_is)
    (case c11 => k_is)
    (case k11 => k_is)
    (case a12 => k_is)
    (case i12 => k_is)
    (case l12 => k_is)
    (case c12 => k_is)
    (case k12 => k_is)
    (case a13 => k_is)
    (case l13 => k_is)
    (case c13 => k_is)
    (case k13 => k_is)
    (case a14 => k_is)
    (case l14 => k_is)
    (case c14 => k_is)
    (case k14 => k_is)
    (case a15 => k_is)
    (case l15 => k_is)
    (case c15 => k_is)
    (case k15 => k_is)
    (case a16 => k_is)
    (case l16 => k_is)
    (case c16 => k_is)
    (case k16 => k_is)
    (case a17 => k_is)
    (case l17 => k_is)
    (case c17 => k_is)
    (case k17 => k_is)
    (case a18 => k_is)
    (case l18 => k_is)
    (case c18 => k_is)
    (case k18 => k_is)
    (case a19 => k_is)
    (case l19 => k_is)
    (case c19 => k_is)
    (case k19 => k_is)
    (case a20 => k_is)
    (case l20 => k_is)
    (case c20 => k_is)
    (case k20 => k_is)
    (case a21 => k_is)
    (case l21 => k_is)
    (case c21 => k_is)
    (case k21 => k_is)
    (case a22 => k_is)
    (case l22 => k_is)
    (case c22 => k_is)
    (case k22 => k_is)
    (case pg => k_is)
    (case hd => k_is)
    (case po => k_is)
    (case sa => k_is)
    (case mk => k_is)
    (case kc => k_is)
    (case n_rows => k_is)
    (case n_sends => k_is)
    (case n_takes => k_is)
    (case z_len => k_is)
    (case z_range => k_is)
    (case z_enumerate => k_is)
    (case z_list => k_is)
    (case z_tuple => k_is)
    (case z_isinstance => k_is)
    (case z_int => k_is)
    (case z_bool => k_is)
    (case z_str => k_is)
    (case z_min => k_is)
    (case z_max => k_is)
    (case z_sum => k_is)
    (case z_sorted => k_is)
    (case z_reversed => k_is)
    (case z_zip => k_is)
    (case z_any => k_is)
    (case z_all => k_is)


