import PyProof.Rows.All
import Wide.All
import OpenK.AllK
import Wide.FinOn
import Lean
import PyProof.EqAt
import PyProof.EqKinds
import PyProof.TupleCall
import PyProof.NeKinds
import PyProof.WalksEnum
import PyProof.EnumMake
import PyProof.CompFree
import PyProof.DictWalks
import PyProof.Rows.SumAny
import PyProof.ZipIter
import PyProof.Rows.ZipGen
import PyProof.Rows.TupAdd
import PyProof.Conv_int_bool
import PyProof.ExcClass3
import PyProof.StationsW
import PyProof.PassesOwn
import PyProof.RulesAs
import PyProof.NsDelKeeps
import PyProof.Rows.Own
import PyProof.ExcBaseAll.ValueError
import PyProof.ExcArgsOwn
import PyProof.Rows.FStr
import PyProof.ConsumeWalk
import PyProof.StrCalls
import KE.KDictSum
import KE.KRevIter
import PyProof.ListRange
import PyProof.StrCalls2
import PyProof.StrWalks
import PyProof.SliceStr2
import PyProof.MeetsStr
import PyProof.Rows.StrNews2
import PyProof.Conv_int
import PyProof.StrLawsTight
import PyProof.StrLawsJoin
import PyProof.Rows.ReprOcc
import PyProof.ReprHeadsTuple
import PyProof.ReprLen
import PyProof.InstStoreFacts
import PyProof.ReprStr
import PyProof.StrLawsRepr
import PyProof.Rows.StrSplitJoin
import PyProof.Rows.RuleN_abs
import PySem.Challenge.RW_cutway_k18_notes_refused
set_option Elab.async false
set_option linter.all false
set_option maxRecDepth 100000
namespace L2
open PySem PySem.Spec PyProof.Rows

noncomputable abbrev Key := Sum Int Str
noncomputable def keyIs : Key → Value → Bool
  | .inl k, v => Value.isInt k v
  | .inr x, v => Value.isStrOf x v
noncomputable def keyH (w : World) : Key → Int
  | .inl k => hashInt k
  | .inr x => hashStr w x
theorem keyIs_shape : ∀ {k : Key} {v : Value}, keyIs k v = true → (∃ i t, k = Sum.inl i ∧ v = Value.int i t) ∨ (∃ x t, k = Sum.inr x ∧ v = Value.str x t)
  | .inl i, v, h => by
    obtain ⟨t, e⟩ := Value.isInt_shape (k := i) (v := v) h
    exact .inl ⟨i, t, rfl, e⟩
  | .inr x, v, h => by
    obtain ⟨t, e⟩ := Value.isStrOf_shape (x := x) (v := v) h
    exact .inr ⟨x, t, rfl, e⟩
theorem keyIs_int (i : Int) (t : Tok) : keyIs (.inl i) (.int i t) = true := by simp [keyIs, Value.isInt]
theorem keyIs_str (x : Str) (t : Tok) : keyIs (.inr x) (.str x t) = true := by simp [keyIs, Value.isStrOf]
theorem key_ll (a b : Int) : decide ((Sum.inl a : Key) = Sum.inl b) = (a == b) := by
  by_cases e : a = b
  · subst e; simp
  · have h : ¬ (Sum.inl a : Key) = Sum.inl b := fun q => e (Sum.inl.inj q)
    rw [decide_eq_false h]
    exact (beq_eq_false_iff_ne.mpr e).symm
theorem key_rr (a b : Str) : decide ((Sum.inr a : Key) = Sum.inr b) = decide (a = b) := by
  by_cases e : a = b
  · subst e; simp
  · have h : ¬ (Sum.inr a : Key) = Sum.inr b := fun q => e (Sum.inr.inj q)
    rw [decide_eq_false h, decide_eq_false e]
theorem key_lr (a : Int) (b : Str) : decide ((Sum.inl a : Key) = Sum.inr b) = false := decide_eq_false (fun q => nomatch q)
theorem key_rl (a : Str) (b : Int) : decide ((Sum.inr a : Key) = Sum.inl b) = false := decide_eq_false (fun q => nomatch q)

noncomputable def mixKind (prog : Program) (w : World) : PySem.KeyKind prog w Key where
  is := keyIs
  hash := keyH w
  inj := fun v a b ha hb => by
    rcases keyIs_shape ha with ⟨i, t, rfl, rfl⟩ | ⟨x, t, rfl, rfl⟩
    · rcases keyIs_shape hb with ⟨j, u, rfl, e⟩ | ⟨y, u, rfl, e⟩
      · injection e with e1 _; rw [e1]
      · exact nomatch e
    · rcases keyIs_shape hb with ⟨j, u, rfl, e⟩ | ⟨y, u, rfl, e⟩
      · exact nomatch e
      · injection e with e1 _; rw [e1]
  byValue := fun k v h => by
    rcases keyIs_shape h with ⟨i, t, rfl, rfl⟩ | ⟨x, t, rfl, rfl⟩ <;> rfl
  pyHash := fun hv h => by
    rcases keyIs_shape hv with ⟨i, t, rfl, rfl⟩ | ⟨x, t, rfl, rfl⟩
    · exact wpAny_pyHash_int h
    · exact wpAny_pyHash_str h
  eqBool := fun hu hv h => by
    rcases keyIs_shape hu with ⟨i, t, rfl, rfl⟩ | ⟨x, t, rfl, rfl⟩
    · rcases keyIs_shape hv with ⟨j, u, rfl, rfl⟩ | ⟨y, u, rfl, rfl⟩
      · rw [key_ll] at h; exact wpAny_eqBool_int h
      · rw [key_lr] at h; exact SeqAt.EqAt.int_str i t y u _ _ _ _ h
    · rcases keyIs_shape hv with ⟨j, u, rfl, rfl⟩ | ⟨y, u, rfl, rfl⟩
      · rw [key_rl] at h; exact SeqAt.EqAt.str_int x t j u _ _ _ _ h
      · rw [key_rr] at h; exact wpAny_eqBool_str h
  «strs» := fun k x t v h => by
    rcases keyIs_shape h with ⟨i, u, rfl, e⟩ | ⟨y, u, rfl, e⟩
    · exact nomatch e
    · injection e with e1 _
      subst e1
      cases v <;> rfl

theorem mixKind_int (prog : Program) (w : World) (i : Int) (t : Tok) : (mixKind prog w).is (.inl i) (.int i t) = true := keyIs_int i t
theorem mixKind_str (prog : Program) (w : World) (x : Str) (t : Tok) : (mixKind prog w).is (.inr x) (.str x t) = true := keyIs_str x t
end L2

namespace L2
open PySem PySem.Spec PyProof.Rows

inductive V where
  | non | bl (b : Bool) | int (i : Int) | str (x : Str) | byt (b : Array UInt8) | flt (b : UInt64) | ref (a : Addr) | ty (n : String)
  deriving DecidableEq

noncomputable def RelV : V → Value → Prop
  | .non, u => u = Value.none
  | .bl b, u => u = Value.bool b
  | .int i, u => ∃ t, u = Value.int i t
  | .str x, u => ∃ t, u = Value.str x t
  | .byt b, u => ∃ t, u = Value.bytes b t
  | .flt b, u => ∃ t, u = Value.float b t
  | .ref a, u => u = Value.ref a
  | .ty n, u => u = Value.type n

noncomputable abbrev Vals : List V → List Value → Prop := Paired RelV
theorem Vals.length {xs : List V} {us : List Value} (r : Vals xs us) : xs.length = us.length := Paired.length r
theorem Vals.get : ∀ {xs : List V} {us : List Value} {i : Nat} {x : V}, Vals xs us → xs[i]? = some x → ∃ u, us[i]? = some u ∧ RelV x u
  | _, _, _, _, .nil, e => by simp at e
  | _, _, 0, _, .cons r _, e => by simp at e; subst e; exact ⟨_, rfl, r⟩
  | _, _, i + 1, x, .cons _ t, e => by
    obtain ⟨u, h1, h2⟩ := Vals.get (i := i) (x := x) t (by simpa using e)
    exact ⟨u, by simpa using h1, h2⟩
theorem Vals.set {x : V} {u : Value} (r : RelV x u) : ∀ {xs : List V} {us : List Value} (i : Nat), Vals xs us → Vals (xs.set i x) (us.set i u)
  | _, _, _, .nil => .nil
  | _, _, 0, .cons _ t => .cons r t
  | _, _, i + 1, .cons q t => .cons q (Vals.set r i t)
theorem Vals.append {xs ys : List V} {us ws : List Value} (h : Vals xs us) (s : Vals ys ws) : Vals (xs ++ ys) (us ++ ws) := by
  induction h with
  | nil => exact s
  | cons r t ih => exact .cons r ih
theorem Vals.take : ∀ {xs : List V} {us : List Value} (n : Nat), Vals xs us → Vals (xs.take n) (us.take n)
  | _, _, 0, _ => .nil
  | _, _, _ + 1, .nil => .nil
  | _, _, n + 1, .cons r t => .cons r (Vals.take n t)
theorem Vals.drop : ∀ {xs : List V} {us : List Value} (n : Nat), Vals xs us → Vals (xs.drop n) (us.drop n)
  | _, _, 0, r => r
  | _, _, _ + 1, .nil => .nil
  | _, _, n + 1, .cons _ t => Vals.drop n t

noncomputable def RelO : Option V → Option Value → Prop
  | some v, some u => RelV v u
  | none, none => True
  | _, _ => False
noncomputable def KV {κ : Type} : List (κ × V) → List (κ × Value) → Prop := Paired fun (p : κ × V) (q : κ × Value) => p.1 = q.1 ∧ RelV p.2 q.2

noncomputable def kV : Key → V
  | .inl i => .int i
  | .inr x => .str x

inductive HO where
    | lst (xs : List V)
    | tup (xs : List V)
    | dK (kvs : List (Key × V)) | dT (kvs : List (List Key × V))
    | set (S : Int → Bool) (n : Nat)
    | ins (C dx : Addr) (fs : List (Str × V))
    | own (x : Addr)
    | xd (fs : List (Str × V))
    | met (f x : Addr)
    | rng (lo hi : Int)
    | frz (o : Obj) (u : HO)
    | tbl (ps : Array Value)
    | ext (φ : Heap → Prop)

noncomputable abbrev Hp := Addr → Option HO
noncomputable def upd (H : Hp) (a : Addr) (o : HO) : Hp := fun b => if b = a then some o else H b
theorem upd_same {H : Hp} {a : Addr} {o : HO} : upd H a o a = some o := by unfold upd; rw [if_pos rfl]
theorem upd_ne {H : Hp} {a b : Addr} {o : HO} (h : b ≠ a) : upd H a o b = H b := by unfold upd; rw [if_neg h]
theorem ne_of {H : Hp} {a b : Addr} {o u : HO} (h : H a = some o) (h' : H b = some u) (d : o ≠ u) : a ≠ b := by
  intro e; subst e; rw [h] at h'; exact d (Option.some.inj h')
theorem ne_of_none {H : Hp} {a b : Addr} {o : HO} (h : H a = some o) (h' : H b = none) : a ≠ b := by
  intro e; subst e; rw [h] at h'; cases h'

section
variable (P : Program) (w : World)
noncomputable def ObjOk (H : Hp) (h : Heap) (a : Addr) : HO → Prop
  | .lst xs => xs.length ≤ sizeLine ∧ ∃ (its : List Value) (n : Nat), Vals xs its ∧ h.get? a = some { cls := .type "list", data := .seq its.toArray n }
  | .tup xs => xs.length ≤ sizeLine ∧ ∃ its : List Value, Vals xs its ∧ IsTup h a its.toArray
  | .dK kvs => kvs.length ≤ sizeLine ∧ (a == sysModules) = false ∧ ∃ vs, KV kvs vs ∧ h.DictOf (mixKind P w) a vs
  | .dT kvs => kvs.length ≤ sizeLine ∧ (a == sysModules) = false ∧ ∃ xs : List (List Key × Addr × Value),
      Paired (fun (p : List Key × V) (q : List Key × Addr × Value) => p.1 = q.1 ∧ H q.2.1 = some (.tup (p.1.map kV)) ∧ RelV p.2 q.2.2) kvs xs ∧
      ∃ o es ep, h.get? a = some o ∧ o.ExactDict ∧ o.data = .dict es ep ∧ es.toList = xs.map (entryOfKey (tupleKind (mixKind P w))) ∧ (xs.map (·.1)).Nodup
  | .set S n => h.SetOf (intKind P w) a S n
  | .ins C dx fs => H dx = some (.own a) ∧ fs.length ≤ 1000 ∧ dx ≠ a ∧ h.get? a = some (PySem.W.instObj C dx) ∧
      ∃ mA, h.Ns1 dx mA ∧ (∀ f, RelO (fs.lookup f) (mA f)) ∧ PySem.Within mA (fs.map (·.1))
  | .own _ => ∃ o, h.get? a = some o
  | .xd fs => ∃ mA, h.Ns1 a mA ∧ ∀ f, RelO (fs.lookup f) (mA f)
  | .rng lo hi => ∃ t u v, h.get? a = some { cls := .type "range", data := .fields #[.int lo t, .int hi u, .int 1 v] }
  | .frz o u => h.get? a = some o ∧ ObjOk H h a u
  | .tbl ps => h.get? a = some { cls := .none, data := .fields ps }
  | .met f x => h.get? a = some (PySem.W.methodObj (.ref f) (.ref x))
  | .ext φ => φ h ∧ (∃ o, h.get? a = some o) ∧ ∀ h1 h2 : Heap, φ h1 → (∀ o, h1.get? a = some o → h2.get? a = some o) → φ h2
noncomputable def HOk (H : Hp) (h : Heap) : Prop := ∀ a o, H a = some o → ObjOk P w H h a o
end

section
variable {P : Program} {w : World} {H H' : Hp} {h h' : Heap} {a : Addr} {o : HO}
theorem ObjOk.lt (x : ObjOk P w H h a o) : a < h.objs.size := by
  cases o with
  | lst xs => obtain ⟨_, _, _, _, e⟩ := x; exact Heap.lt_size e
  | tup xs => obtain ⟨_, _, _, p⟩ := x; exact p.lt
  | dK kvs => obtain ⟨_, _, _, _, o, _, _, e, _⟩ := x; exact Heap.lt_size e
  | dT kvs => obtain ⟨_, _, _, _, o, _, _, e, _⟩ := x; exact Heap.lt_size e
  | set S n => obtain ⟨o, _, _, _, e, _⟩ := x; exact Heap.lt_size e
  | ins C dx fs => obtain ⟨_, _, _, e, _⟩ := x; exact Heap.lt_size e
  | own y => obtain ⟨_, e⟩ := x; exact Heap.lt_size e
  | xd fs => obtain ⟨_, ⟨_, _, _, e, _⟩, _⟩ := x; exact Heap.lt_size e
  | rng lo hi => obtain ⟨_, _, _, e⟩ := x; exact Heap.lt_size e
  | frz ob u => obtain ⟨e, _⟩ := x; exact Heap.lt_size e
  | tbl ps => exact Heap.lt_size (show h.get? a = some _ from x)
  | met f y => exact Heap.lt_size (show h.get? a = some _ from x)
  | ext φ => obtain ⟨_, ⟨_, e⟩, _⟩ := x; exact Heap.lt_size e
theorem Paired.mapP {α β : Type} {F G : α → β → Prop} {l₁ : List α} {l₂ : List β} (h : Paired F l₁ l₂) (f : ∀ a b, F a b → G a b) : Paired G l₁ l₂ := by
  induction h with
  | nil => exact .nil
  | cons r t ih => exact .cons (f _ _ r) ih
theorem ObjOk.stay (x : ObjOk P w H h a o) (k : ∀ b u, (b = a ∨ H b = some (.own a)) → h.get? b = some u → h'.get? b = some u)
    (ho : ∀ b, H b = some (.own a) → H' b = some (.own a)) (ht : ∀ b xs, H b = some (.tup xs) → H' b = some (.tup xs)) : ObjOk P w H' h' a o := by
  induction o with
  | lst xs => obtain ⟨z, its, n, r, e⟩ := x; exact ⟨z, its, n, r, k _ _ (.inl rfl) e⟩
  | tup xs => obtain ⟨z, its, r, ob, e, c⟩ := x; exact ⟨z, its, r, ob, k _ _ (.inl rfl) e, c⟩
  | dK kvs => obtain ⟨z, y, vs, r, ob, es, ep, e, c⟩ := x; exact ⟨z, y, vs, r, ob, es, ep, k _ _ (.inl rfl) e, c⟩
  | dT kvs =>
    obtain ⟨z, y, xs, r, ob, es, ep, e, c⟩ := x
    exact ⟨z, y, xs, Paired.mapP r fun p q z => ⟨z.1, ht _ _ z.2.1, z.2.2⟩, ob, es, ep, k _ _ (.inl rfl) e, c⟩
  | set S n => obtain ⟨ob, es, ep, t, e, c⟩ := x; exact ⟨ob, es, ep, t, k _ _ (.inl rfl) e, c⟩
  | ins C dx fs =>
    obtain ⟨d, z, ne, e, mA, ⟨od, es, ep, e2, c⟩, r⟩ := x
    exact ⟨ho _ d, z, ne, k _ _ (.inl rfl) e, mA, ⟨od, es, ep, k _ _ (.inr d) e2, c⟩, r⟩
  | own y => obtain ⟨ob, e⟩ := x; exact ⟨ob, k _ _ (.inl rfl) e⟩
  | xd fs => obtain ⟨mA, ⟨od, es, ep, e, c⟩, r⟩ := x; exact ⟨mA, ⟨od, es, ep, k _ _ (.inl rfl) e, c⟩, r⟩
  | rng lo hi => obtain ⟨t, u, v, e⟩ := x; exact ⟨t, u, v, k _ _ (.inl rfl) e⟩
  | frz ob u ih => obtain ⟨e, q⟩ := x; exact ⟨k _ _ (.inl rfl) e, ih q⟩
  | tbl ps =>
    have e : h.get? a = some { cls := .none, data := .fields ps } := x
    show h'.get? a = some { cls := .none, data := .fields ps }
    exact k a _ (.inl rfl) e
  | met f y =>
    have e : h.get? a = some (PySem.W.methodObj (.ref f) (.ref y)) := x
    show h'.get? a = some (PySem.W.methodObj (.ref f) (.ref y))
    exact k a _ (.inl rfl) e
  | ext φ => obtain ⟨p, ⟨o, e⟩, st⟩ := x; exact ⟨st _ _ p fun o q => k _ _ (.inl rfl) q, ⟨o, k _ _ (.inl rfl) e⟩, st⟩
theorem HOk.lt (x : HOk P w H h) (e : H a = some o) : a < h.objs.size := (x a o e).lt
theorem HOk.fresh (x : HOk P w H h) (e : h.objs.size ≤ a) : H a = none := by
  cases q : H a with
  | none => rfl
  | some u => exact absurd (Nat.lt_of_lt_of_le (x.lt q) e) (Nat.lt_irrefl _)
theorem HOk.kept (x : HOk P w H h) (k : ∀ b u, h.get? b = some u → h'.get? b = some u) : HOk P w H h' := fun a o e =>
  (x a o e).stay (fun b u _ q => k b u q) (fun _ q => q) fun _ _ q => q
theorem HOk.laid (x : HOk P w H h) (k : ∀ b u, h.get? b = some u → h'.get? b = some u) (hp : h.objs.size ≤ a) (new : ObjOk P w (upd H a o) h' a o) : HOk P w (upd H a o) h' := fun b u e => by
  have hn := x.fresh hp
  by_cases hb : b = a
  · subst hb; rw [upd_same] at e; cases e; exact new
  · rw [upd_ne hb] at e
    exact (x b u e).stay (fun c v _ q => k c v q) (fun c q => by rw [upd_ne (ne_of_none q hn)]; exact q) fun c xs q => by rw [upd_ne (ne_of_none q hn)]; exact q
end

noncomputable def Rd (H : Hp) (a : Addr) (u : HO) : Prop := H a = some u ∨ ∃ o, H a = some (.frz o u)
theorem Rd.ok {P : Program} {w : World} {H : Hp} {h : Heap} {a : Addr} {u : HO} (r : Rd H a u) (x : HOk P w H h) : ObjOk P w H h a u := by
  rcases r with r | ⟨o, r⟩
  · exact x a u r
  · obtain ⟨_, q⟩ := x a _ r
    exact q
noncomputable def Mut : Option HO → Prop
  | some (.lst _) => True
  | some (.dK _) => True
  | some (.dT _) => True
  | some (.set _ _) => True
  | some (.ins _ _ _) => True
  | some (.ext _) => True
  | _ => False
section
variable {P : Program} {w : World} {H : Hp} {h h' : Heap} {x e : Addr} {o' : HO}
theorem HOk.write (ok : HOk P w H h) (mu : Mut (H x)) (he : e = x ∨ H e = some (.own x)) (k : ∀ b u, b ≠ e → h.get? b = some u → h'.get? b = some u) (heo : ∃ u, h'.get? e = some u)
    (new : ObjOk P w (upd H x o') h' x o') : HOk P w (upd H x o') h' := fun b u q => by
  have nown : ∀ c y, H c = some (.own y) → c ≠ x := fun c y r z => by subst z; rw [r] at mu; exact mu
  have ntup : ∀ c xs, H c = some (.tup xs) → c ≠ x := fun c xs r z => by subst z; rw [r] at mu; exact mu
  by_cases hb : b = x
  · subst hb; rw [upd_same] at q; cases q; exact new
  · rw [upd_ne hb] at q
    by_cases hbe : b = e
    · have q' : H b = some (.own x) := by
        rcases he with z | z
        · exact absurd (hbe.trans z) hb
        · rw [hbe]; exact z
      rw [q] at q'; cases q'
      obtain ⟨v, hv⟩ := heo
      exact ⟨v, by rw [hbe]; exact hv⟩
    · refine (ok b u q).stay (fun c v hc r => k c v ?_ r) (fun c r => by rw [upd_ne (nown c b r)]; exact r) fun c xs r => by rw [upd_ne (ntup c xs r)]; exact r
      rcases hc with rfl | hc
      · exact hbe
      · rintro rfl
        rcases he with z | z
        · exact nown c b hc z
        · rw [hc] at z; cases z; exact hb rfl
end

structure Un (fs ex : List Addr) (H H' : Hp) (h h' : Heap) : Prop where
  keep : ∀ b o, h.get? b = some o → H b = none → b ∉ fs → b ∉ ex → h'.get? b = some o
  slot : ∀ b o, h.get? b = some o → H b = none → b ∈ fs → b ∉ ex → ∃ sl, h'.get? b = some { o with slots := sl }
  free : ∀ b o, h.get? b = some o → H b = none → b ∉ ex → H' b = none
  there : ∀ b o, h.get? b = some o → b ∉ ex → ∃ o', h'.get? b = some o'
  tups : ∀ b xs, H b = some (.tup xs) → H' b = some (.tup xs)
  frzs : ∀ b o u, H b = some (.frz o u) → H' b = some (.frz o u)
  tbls : ∀ b ps, H b = some (.tbl ps) → ∃ more, H' b = some (.tbl (ps ++ more))
section
variable {fs fs' ex ex' : List Addr} {H H1 H2 : Hp} {h h1 h2 h' : Heap} {a x e : Addr} {o : HO}
theorem Un.any (u : Un fs ex H H1 h h1) {b : Addr} {ob : Obj} (q : h.get? b = some ob) (n : H b = none) (hx : b ∉ ex) : ∃ sl, h1.get? b = some { ob with slots := sl } := by
  by_cases hb : b ∈ fs
  · exact u.slot b ob q n hb hx
  · exact ⟨ob.slots, u.keep b ob q n hb hx⟩
theorem Un.kept (k : ∀ b u, h.get? b = some u → h'.get? b = some u) : Un fs ex H H h h' :=
  ⟨fun b ob q _ _ _ => k b ob q, fun b ob q _ _ _ => ⟨ob.slots, k b ob q⟩, fun _ _ _ n _ => n, fun b ob q _ => ⟨ob, k b ob q⟩, fun _ _ q => q, fun _ _ _ q => q, fun _ ps q => ⟨#[], by rw [q]; simp⟩⟩
theorem Un.refl : Un fs ex H H h h := Un.kept fun _ _ q => q
theorem Un.laid (k : ∀ b u, h.get? b = some u → h'.get? b = some u) (hp : h.objs.size ≤ a) (hn : H a = none) : Un fs ex H (upd H a o) h h' where
  keep := fun b u q _ _ _ => k b u q
  slot := fun b u q _ _ _ => ⟨u.slots, k b u q⟩
  free := fun b u q n _ => by rw [upd_ne (Nat.ne_of_lt (Nat.lt_of_lt_of_le (Heap.lt_size q) hp))]; exact n
  there := fun b u q _ => ⟨u, k b u q⟩
  tups := fun b xs q => by rw [upd_ne (ne_of_none q hn)]; exact q
  frzs := fun b u xs q => by rw [upd_ne (ne_of_none q hn)]; exact q
  tbls := fun b ps q => ⟨#[], by rw [upd_ne (ne_of_none q hn), q]; simp⟩
theorem Un.write (mu : Mut (H x)) (he : e = x ∨ H e = some (.own x)) (k : ∀ b u, b ≠ e → h.get? b = some u → h'.get? b = some u) (heo : ∃ u, h'.get? e = some u) : Un fs ex H (upd H x o) h h' := by
  have hx : ∀ b, H b = none → b ≠ x := fun b n z => by subst z; rw [n] at mu; exact mu
  have hb : ∀ b, H b = none → b ≠ e := fun b n z => by
    subst z
    rcases he with r | r
    · exact hx b n r
    · rw [n] at r; cases r
  have hm : ∀ b u, H b = some u → ¬ Mut (some u) → b ≠ x := fun b u q nm z => by subst z; rw [q] at mu; exact nm mu
  refine ⟨fun b u q n _ _ => k b u (hb b n) q, fun b u q n _ _ => ⟨u.slots, k b u (hb b n) q⟩, fun b u q n _ => by rw [upd_ne (hx b n)]; exact n, fun b u q _ => ?_,
    fun b xs q => by rw [upd_ne (hm b _ q fun z => z)]; exact q, fun b u xs q => by rw [upd_ne (hm b _ q fun z => z)]; exact q, fun b ps q => ⟨#[], by rw [upd_ne (hm b _ q fun z => z), q]; simp⟩⟩
  by_cases hbe : b = e
  · subst hbe; exact heo
  · exact ⟨u, k b u hbe q⟩
end

noncomputable def trk (h : Heap) (H : Hp) : List Addr := (List.range h.objs.size).filter fun a => (H a).isSome
noncomputable def hidT (h : Heap) (H : Hp) : Heap := PySem.W.hideAll h (trk h H)
theorem hidT_size (h : Heap) (H : Hp) : (hidT h H).objs.size = h.objs.size := PySem.W.hideAll_size _ _
theorem hidT_get {h : Heap} {H : Hp} {b : Addr} {o : Obj} (e : h.get? b = some o) (n : H b = none) : (hidT h H).get? b = some o :=
  PySem.W.hideAll_get _ e fun hm => by
    have q : (H b).isSome = true := (List.mem_filter.mp hm).2
    rw [n] at q; simp at q
theorem of_hidT {h : Heap} {H : Hp} {b : Addr} {o : Obj} (e : (hidT h H).get? b = some o) : h.get? b = some o ∧ H b = none := by
  have e' : h.get? b = some o := PySem.W.of_hideAll (trk h H) e
  refine ⟨e', ?_⟩
  cases q : H b with
  | none => rfl
  | some x =>
    have hm : b ∈ trk h H := List.mem_filter.mpr ⟨List.mem_range.mpr (Heap.lt_size e'), by simp [q]⟩
    have z : (hidT h H).get? b = none := PySem.W.hideAll_none (trk h H) hm
    rw [z] at e; cases e

end L2

namespace L2
open PySem PySem.Spec PyProof.Rows

structure Mod (K : PySem.W.Frag) (mg : Str → Option Value) (base : Heap) : Prop where
  kin : K.In base
  glob : base.Ns mainGlobals mg
  blt : ∃ mb, base.Ns builtinsNs mb ∧ ∀ x : Str, x ≠ "__name__" → mb x = bootBuiltins x
  nolimit : base.NoLimit

structure Cx where
  prog : Program
  w : World
  K : PySem.W.Frag
  mg : Str → Option Value
  base : Heap
  A : Around
  N : List Str
  s₀ : Shared
  H₀ : Hp
  env : Env
  outer : List Env
  stack : List Env
  ex : List Addr
  fn : Str → Bool
  calm : Bool
  pn : List (Addr × Obj)
  xe : Value → Shared → Prop
noncomputable def frs (l : List Env) : List Addr := l.filterMap (·.frame)
noncomputable abbrev Cx.fs (X : Cx) : List Addr := frs X.outer

noncomputable def Vis (sc : Scope) (x : Str) : Prop := sc.names.lookup x = some .local ∨ sc.names.lookup x = some .cell ∨ sc.names.lookup x = some .free
noncomputable def Loc (sc : Scope) (x : Str) : Prop := sc.names.lookup x = some .local ∨ sc.names.lookup x = some .cell
noncomputable def Look (env : Env) (h : Heap) (m : Str → Option Value) (x : Str) (u : Value) : Prop :=
  (env.kindOf x = some .local ∧ m x = some u) ∨ ((env.kindOf x = some .cell ∨ env.kindOf x = some .free) ∧ ∃ c, env.cells.lookup x = some c ∧ h.IsCell c (some u))

structure Cx.Ok (X : Cx) : Prop where
  mod : Mod X.K X.mg X.base
  kind : X.env.scope.kind = .function
  glob : X.env.globals = mainGlobals
  blt : X.env.builtins = builtinsNs
  above : X.s₀.heap.objs.size ≤ X.env.locals
  inj : ∀ x y c, X.env.cells.lookup x = some c → X.env.cells.lookup y = some c → x = y
  has : ∀ x, (X.env.kindOf x = some .cell ∨ X.env.kindOf x = some .free) → ∃ c, X.env.cells.lookup x = some c
  cab : ∀ x c, X.fn x = true → X.env.cells.lookup x = some c → X.s₀.heap.objs.size ≤ c
  hd : X.calm = true → X.A.handled = none
  frames : X.A.frames = some X.stack
  stk : X.stack = X.outer ∨ (X.stack = X.env :: X.outer ∧ X.env.frame = some X.env.locals)
  exf : ∀ b ∈ X.ex, b ≠ X.env.locals ∧ ∀ x c, X.env.cells.lookup x = some c → c ≠ b
  bs : ∀ b o, X.base.get? b = some o → X.s₀.heap.get? b = some o ∧ X.H₀ b = none
  bsz : X.base.objs.size ≤ X.s₀.heap.objs.size
  noex : ∀ b o, X.base.get? b = some o → b ∉ X.ex
  exfs : ∀ b ∈ X.ex, b ∉ X.fs
  funs : X.s₀.heap.FunFrames X.base X.outer
  frf : ∀ b ∈ X.fs, X.H₀ b = none

structure Inv (X : Cx) (pins : List (Addr × Obj)) (σ : List (Option V)) (H : Hp) (s : Shared) : Prop where
  ok : X.Ok
  os : s.os = X.s₀.os
  bare : AllBare s.gens
  base : Un X.fs X.ex X.H₀ H X.s₀.heap s.heap
  loc : ∃ m, s.heap.Ns X.env.locals m ∧ ∀ (i : Nat) (x : Str) (v : V), X.N[i]? = some x → σ[i]? = some (some v) → Vis X.env.scope x → ∃ u, RelV v u ∧ Look X.env s.heap m x u
  cell : ∀ x c, X.env.cells.lookup x = some c → ∃ v, s.heap.IsCell c v
  free : H X.env.locals = none
  freeC : ∀ x c, X.env.cells.lookup x = some c → H c = none
  pin : ∀ p ∈ X.pn ++ pins, s.heap.get? p.1 = some p.2 ∧ H p.1 = none ∧ p.1 ≠ X.env.locals ∧ p.1 ∉ X.fs ∧ ∀ v, p.2.data ≠ .cell v
  hok : HOk X.prog X.w H s.heap
  len : σ.length = X.N.length

section
variable {X : Cx} {pins : List (Addr × Obj)} {σ : List (Option V)} {H H' : Hp} {s : Shared} {h' : Heap}

theorem Cx.Ok.nofr (ok : X.Ok) {b : Addr} {o : Obj} (e : X.base.get? b = some o) : b ∉ X.fs := fun hb => by
  have := (ok.funs.mem hb).1
  rw [e] at this; cases this
theorem Inv.bs (I : Inv X pins σ H s) : ∀ b o, X.base.get? b = some o → s.heap.get? b = some o ∧ H b = none := fun b o e =>
  ⟨I.base.keep b o (I.ok.bs b o e).1 (I.ok.bs b o e).2 (I.ok.nofr e) (I.ok.noex b o e), I.base.free b o (I.ok.bs b o e).1 (I.ok.bs b o e).2 (I.ok.noex b o e)⟩
theorem Inv.bk (I : Inv X pins σ H s) : ∀ b o, X.base.get? b = some o → s.heap.get? b = some o := fun b o e => (I.bs b o e).1
theorem Inv.mod (I : Inv X pins σ H s) : Mod X.K X.mg X.base := I.ok.mod
theorem Inv.kIn (I : Inv X pins σ H s) : X.K.In s.heap := I.ok.mod.kin.keeps I.bk
theorem Inv.lt (I : Inv X pins σ H s) : X.env.locals < s.heap.objs.size := let ⟨_, hn, _⟩ := I.loc; hn.lt
theorem Inv.sz (I : Inv X pins σ H s) : X.s₀.heap.objs.size ≤ s.heap.objs.size := Nat.le_trans I.ok.above (Nat.le_of_lt I.lt)
theorem Inv.nofs (I : Inv X pins σ H s) {a : Addr} (h : s.heap.objs.size ≤ a) : a ∉ X.fs := fun hb => by
  obtain ⟨_, o, ho, _⟩ := I.ok.funs.mem hb
  exact absurd (Nat.lt_of_lt_of_le (Heap.lt_size ho) (Nat.le_trans I.sz h)) (Nat.lt_irrefl _)
theorem Inv.cne (I : Inv X pins σ H s) : ∀ x c, X.env.cells.lookup x = some c → c ≠ X.env.locals := fun x c e z => by
  obtain ⟨v, o, ho, hd⟩ := I.cell x c e
  obtain ⟨m, ⟨o', es, ep, ho', hd', _⟩, _⟩ := I.loc
  rw [z, ho'] at ho; cases ho; rw [hd'] at hd; cases hd
theorem Inv.funs (I : Inv X pins σ H s) : s.heap.FunFrames X.base X.outer := by
  have all : ∀ (l : List Env), (∀ b ∈ frs l, b ∈ X.fs) → X.s₀.heap.FunFrames X.base l → s.heap.FunFrames X.base l := by
    intro l
    induction l with
    | nil => intro _ _; trivial
    | cons env r ih =>
      intro hs hl
      obtain ⟨hk, ⟨L, o, hf, hn, ho, hd⟩, hr⟩ := hl
      have hL : L ∈ X.fs := hs L (by unfold frs; rw [List.filterMap_cons, hf]; exact List.mem_cons_self)
      obtain ⟨sl, e⟩ := I.base.slot L o ho (I.ok.frf L hL) hL fun z => I.ok.exfs L z hL
      exact ⟨hk, ⟨L, _, hf, hn, e, hd⟩, ih (fun b hb => hs b (by unfold frs; rw [List.filterMap_cons, hf]; exact List.mem_cons_of_mem _ hb)) hr⟩
  exact all X.outer (fun _ hb => hb) I.ok.funs

theorem Inv.stack (I : Inv X pins σ H s) : s.heap.FunFrames X.base X.stack := by
  rcases I.ok.stk with e | ⟨e, hf⟩
  · rw [e]; exact I.funs
  · rw [e]
    obtain ⟨m, hn, _⟩ := I.loc
    refine .cons (by rw [I.ok.kind]; decide) hf hn ?_ I.funs
    exact Heap.get?_none_of_le (Nat.le_trans I.ok.bsz I.ok.above)
theorem Inv.stkSub (I : Inv X pins σ H s) : ∀ b ∈ frs X.stack, b ∈ X.env.locals :: X.fs := fun b hb => by
  rcases I.ok.stk with e | ⟨e, hf⟩
  · rw [e] at hb; exact List.mem_cons_of_mem _ hb
  · rw [e] at hb
    unfold frs at hb
    rw [List.filterMap_cons, hf] at hb
    exact hb
theorem Inv.stkFree (I : Inv X pins σ H s) : ∀ b ∈ frs X.stack, H b = none := fun b hb => by
  rcases List.mem_cons.mp (I.stkSub b hb) with e | hb
  · rw [e]; exact I.free
  · obtain ⟨_, o, ho, _⟩ := I.ok.funs.mem hb
    exact I.base.free b o ho (I.ok.frf b hb) fun z => I.ok.exfs b z hb

theorem Inv.step {g' : Array GenState} {t' : Nat} {d' : Drawn} {ch : List Addr} (I : Inv X pins σ H s)
    (hch : ∀ b ∈ ch, (b ∈ X.ex ∨ X.s₀.heap.objs.size ≤ b) ∧ b ≠ X.env.locals ∧ (∀ x c, X.env.cells.lookup x = some c → c ≠ b) ∧ ∀ p ∈ X.pn ++ pins, p.1 ≠ b)
    (keep : ∀ b o, b ≠ X.env.locals → b ∉ X.fs → b ∉ ch → s.heap.get? b = some o → H b = none → h'.get? b = some o)
    (slot : ∀ b o, b ≠ X.env.locals → b ∈ X.fs → b ∉ ch → s.heap.get? b = some o → H b = none → ∃ sl, h'.get? b = some { o with slots := sl }) (free : ∀ b o, b ∉ ch → s.heap.get? b = some o → H b = none → H' b = none)
    (there : ∀ b o, b ∉ ch → s.heap.get? b = some o → ∃ o', h'.get? b = some o')
    (tups : ∀ b xs, H b = some (.tup xs) → H' b = some (.tup xs)) (frzs : ∀ b o u, H b = some (.frz o u) → H' b = some (.frz o u)) (tbls : ∀ b ps, H b = some (.tbl ps) → ∃ more, H' b = some (.tbl (ps ++ more)))
    (ns : ∀ m, s.heap.Ns X.env.locals m → h'.Ns X.env.locals m) (hok : HOk X.prog X.w H' h') (hg : AllBare g') :
    Inv X pins σ H' { s with heap := h', gens := g', drawn := d', toks := t' } := by
  have neL : ∀ b o, X.s₀.heap.get? b = some o → b ≠ X.env.locals := fun b o e => Nat.ne_of_lt (Nat.lt_of_lt_of_le (Heap.lt_size e) I.ok.above)
  have neC : ∀ b o, X.s₀.heap.get? b = some o → b ∉ X.ex → b ∉ ch := fun b o e hx hb => by
    rcases (hch b hb).1 with z | z
    · exact hx z
    · exact absurd (Nat.lt_of_lt_of_le (Heap.lt_size e) z) (Nat.lt_irrefl _)
  have cellK : ∀ x c, X.env.cells.lookup x = some c → ∀ v, s.heap.IsCell c v → h'.IsCell c v := fun x c e v ⟨o, ho, hd⟩ => by
    have nch : c ∉ ch := fun z => (hch c z).2.2.1 x c e rfl
    by_cases hc : c ∈ X.fs
    · obtain ⟨sl, q⟩ := slot c o (I.cne x c e) hc nch ho (I.freeC x c e)
      exact ⟨_, q, hd⟩
    · exact ⟨o, keep c o (I.cne x c e) hc nch ho (I.freeC x c e), hd⟩
  refine ⟨I.ok, I.os, hg, ⟨fun b o e n hb hx => ?_, fun b o e n hb hx => ?_, fun b o e n hx => ?_, fun b o e hx => ?_, fun b xs e => tups b xs (I.base.tups b xs e), fun b o xs e => frzs b o xs (I.base.frzs b o xs e), fun b ps e => ?_⟩, ?_, fun x c e => ?_, ?_, fun x c e => ?_, fun p hp => ?_, hok, I.len⟩
  · exact keep b o (neL b o e) hb (neC b o e hx) (I.base.keep b o e n hb hx) (I.base.free b o e n hx)
  · obtain ⟨sl, e1⟩ := I.base.slot b o e n hb hx
    obtain ⟨sl', e2⟩ := slot b _ (neL b o e) hb (neC b o e hx) e1 (I.base.free b o e n hx)
    exact ⟨sl', e2⟩
  · obtain ⟨o', e1⟩ := I.base.there b o e hx
    exact free b o' (neC b o e hx) e1 (I.base.free b o e n hx)
  · obtain ⟨o', e1⟩ := I.base.there b o e hx
    exact there b o' (neC b o e hx) e1
  · obtain ⟨m1, e1⟩ := I.base.tbls b ps e
    obtain ⟨m2, e2⟩ := tbls b _ e1
    exact ⟨m1 ++ m2, by rw [e2, Array.append_assoc]⟩
  · obtain ⟨m, hn, hl⟩ := I.loc
    refine ⟨m, ns m hn, fun i x v e1 e2 e3 => ?_⟩
    obtain ⟨u, r, l⟩ := hl i x v e1 e2 e3
    refine ⟨u, r, ?_⟩
    rcases l with l | ⟨k, c, e, z⟩
    · exact .inl l
    · exact .inr ⟨k, c, e, cellK x c e _ z⟩
  · obtain ⟨v, z⟩ := I.cell x c e
    exact ⟨v, cellK x c e v z⟩
  · obtain ⟨m, ⟨o, _, _, ho, _⟩, _⟩ := I.loc
    exact free _ o (fun z => (hch _ z).2.1 rfl) ho I.free
  · obtain ⟨v, o, ho, hd⟩ := I.cell x c e
    exact free c o (fun z => (hch c z).2.2.1 x c e rfl) ho (I.freeC x c e)
  · obtain ⟨e, n, ne, nf, d⟩ := I.pin p hp
    have nch : p.1 ∉ ch := fun z => (hch p.1 z).2.2.2 p hp rfl
    exact ⟨keep p.1 p.2 ne nf nch e n, free p.1 p.2 nch e n, ne, nf, d⟩
theorem Inv.un {t' : Nat} (I : Inv X pins σ H s) (u : Un X.fs [] H H' s.heap h') (hok : HOk X.prog X.w H' h') : Inv X pins σ H' { s with heap := h', toks := t' } := by
  obtain ⟨m, ⟨o, es, ep, ho, r⟩, _⟩ := id I.loc
  obtain ⟨sl, hL⟩ := u.any ho I.free (by simp)
  exact I.step (g' := s.gens) (d' := s.drawn) (ch := []) (fun _ z => nomatch z) (fun b o _ hb _ e n => u.keep b o e n hb (by simp)) (fun b o _ hb _ e n => u.slot b o e n hb (by simp)) (fun b o _ e n => u.free b o e n (by simp)) (fun b o _ e => u.there b o e (by simp)) u.tups u.frzs u.tbls (fun m' hm => by
    obtain ⟨o', es', ep', ho', r'⟩ := hm
    rw [ho] at ho'; cases ho'
    exact ⟨_, es', ep', hL, r'⟩) hok I.bare
theorem Inv.call {g' : Array GenState} {t' : Nat} {d' : Drawn} {ch : List Addr} (I : Inv X pins σ H s) (u : Un (frs X.stack) ch H H' s.heap h') (hok : HOk X.prog X.w H' h') (hg : AllBare g')
    (hch : ∀ b ∈ ch, (b ∈ X.ex ∨ X.s₀.heap.objs.size ≤ b) ∧ b ≠ X.env.locals ∧ (∀ x c, X.env.cells.lookup x = some c → c ≠ b) ∧ ∀ p ∈ X.pn ++ pins, p.1 ≠ b) :
    Inv X pins σ H' { s with heap := h', gens := g', drawn := d', toks := t' } := by
  obtain ⟨m, ⟨o, es, ep, ho, r⟩, _⟩ := id I.loc
  obtain ⟨sl, hL⟩ := u.any ho I.free fun z => (hch _ z).2.1 rfl
  exact I.step (ch := ch) hch (fun b o hL hb hc e n => u.keep b o e n (fun z => (List.mem_cons.mp (I.stkSub b z)).elim hL hb) hc) (fun b o _ _ hc e n => u.any e n hc) (fun b o hc e n => u.free b o e n hc) (fun b o hc e => u.there b o e hc) u.tups u.frzs u.tbls (fun m' hm => by
    obtain ⟨o', es', ep', ho', r'⟩ := hm
    rw [ho] at ho'; cases ho'
    exact ⟨_, es', ep', hL, r'⟩) hok hg
theorem Inv.turned {t' : Nat} {it : Addr} (I : Inv X pins σ H s) (k : ∀ b o, b ≠ it → s.heap.get? b = some o → h'.get? b = some o) (hn : H it = none) (hL : it ≠ X.env.locals)
    (h1 : it ∈ X.ex ∨ X.s₀.heap.objs.size ≤ it) (h2 : ∀ x c, X.env.cells.lookup x = some c → c ≠ it) (h3 : ∀ p ∈ X.pn ++ pins, p.1 ≠ it) : Inv X pins σ H { s with heap := h', toks := t' } := by
  have nit : ∀ b u, H b = some u → b ≠ it := fun b u e z => by rw [z, hn] at e; cases e
  refine I.step (g' := s.gens) (d' := s.drawn) (ch := [it]) (fun b hb => ?_) (fun b o _ _ hc e _ => k b o (fun z => hc (by simp [z])) e) (fun b o _ _ hc e _ => ⟨o.slots, k b o (fun z => hc (by simp [z])) e⟩) (fun _ _ _ _ n => n)
    (fun b o hc e => ⟨o, k b o (fun z => hc (by simp [z])) e⟩) (fun _ _ e => e) (fun _ _ _ e => e) (fun b ps e => ⟨#[], by rw [e]; simp⟩) (fun m hm => ?_) (fun b u e => ?_) I.bare
  · have e : b = it := by simpa using hb
    subst e
    exact ⟨h1, hL, h2, h3⟩
  · obtain ⟨o, es, ep, ho, r⟩ := hm
    exact ⟨o, es, ep, k _ o (Ne.symm hL) ho, r⟩
  · refine (I.hok b u e).stay (fun c v hc q => k c v ?_ q) (fun _ q => q) fun _ _ q => q
    rcases hc with z | z
    · rw [z]; exact nit b u e
    · exact nit c _ z
theorem Inv.tok (I : Inv X pins σ H s) (t : Nat) : Inv X pins σ H { s with toks := t } := I.un (h' := s.heap) (t' := t) Un.refl I.hok
theorem Inv.kept {t' : Nat} (I : Inv X pins σ H s) (k : ∀ b u, s.heap.get? b = some u → h'.get? b = some u) : Inv X pins σ H { s with heap := h', toks := t' } := I.un (Un.kept k) (I.hok.kept k)
theorem Inv.laid {a : Addr} {o : HO} {t' : Nat} (I : Inv X pins σ H s) (k : ∀ b u, s.heap.get? b = some u → h'.get? b = some u) (hp : s.heap.objs.size ≤ a) (new : ObjOk X.prog X.w (upd H a o) h' a o) :
    Inv X pins σ (upd H a o) { s with heap := h', toks := t' } := I.un (Un.laid k hp (I.hok.fresh hp)) (I.hok.laid k hp new)
theorem Inv.write {x e : Addr} {o : HO} {t' : Nat} (I : Inv X pins σ H s) (mu : Mut (H x)) (he : e = x ∨ H e = some (.own x)) (k : ∀ b u, b ≠ e → s.heap.get? b = some u → h'.get? b = some u) (heo : ∃ u, h'.get? e = some u)
    (new : ObjOk X.prog X.w (upd H x o) h' x o) : Inv X pins σ (upd H x o) { s with heap := h', toks := t' } := I.un (Un.write mu he k heo) (I.hok.write mu he k heo new)
theorem Inv.pins_of {pins' : List (Addr × Obj)} (I : Inv X pins σ H s) (h : ∀ p ∈ pins', s.heap.get? p.1 = some p.2 ∧ H p.1 = none ∧ p.1 ≠ X.env.locals ∧ p.1 ∉ X.fs ∧ ∀ v, p.2.data ≠ .cell v) : Inv X pins' σ H s :=
  ⟨I.ok, I.os, I.bare, I.base, I.loc, I.cell, I.free, I.freeC, fun p hp => (List.mem_append.mp hp).elim (fun z => I.pin p (List.mem_append_left _ z)) (h p), I.hok, I.len⟩

theorem nodup_ix {N : List Str} (hN : N.Nodup) {i j : Nat} {x : Str} (a : N[i]? = some x) (b : N[j]? = some x) : i = j := by
  obtain ⟨h1, e1⟩ := List.getElem?_eq_some_iff.mp a
  obtain ⟨h2, e2⟩ := List.getElem?_eq_some_iff.mp b
  exact (List.getElem_inj hN).mp (e1.trans e2.symm)

theorem store_ok2 {M : Model} {A : Around} {E : Value → Shared → Prop} {i : Nat} {x : Str} {v : V} {u : Value} {Q : Unit → Shared → Prop} (I : Inv X pins σ H s) (hN : X.N.Nodup) (hi : X.N[i]? = some x) (hx : Loc X.env.scope x) (r : RelV v u)
    (h : ∀ s', Inv X pins (σ.set i (some v)) H s' → (∃ a, Heap.SameBut a s.heap s'.heap ∧ (a = X.env.locals ∨ X.env.cells.lookup x = some a)) → Q () s') (hf : X.fn x = true ∨ X.env.scope.names.lookup x = some .local := by first | exact .inl rfl | exact .inr rfl | assumption) : wpAny M A (storeName X.env x u) Q E s := by
  obtain ⟨m, hn, hl⟩ := id I.loc
  have hcls : (X.env.scope.kind == .class || (X.env.scope.kind == .module && X.env.locals != X.env.globals)) = false := by rw [I.ok.kind]; rfl
  have hiσ : i < σ.length := by rw [I.len]; exact (List.getElem?_eq_some_iff.mp hi).1
  have cne := I.cne
  have tracked : ∀ {a : Addr} {h' : Heap}, (∃ o, s.heap.get? a = some o ∧ H a = none) → Heap.SameBut a s.heap h' → HOk X.prog X.w H h' := fun {a h'} ha hs b ob e => by
    obtain ⟨_, _, hfree⟩ := ha
    refine (I.hok b ob e).stay (fun c w' hc q => (hs.2 c ?_).trans q) (fun _ q => q) fun _ _ q => q
    rintro rfl
    rcases hc with rfl | hc
    · rw [hfree] at e; cases e
    · rw [hfree] at hc; cases hc
  rcases hx with hk | hk
  · refine wpAny_storeName_local hk hn (fun h' hn' hs => ?_) hcls
    obtain ⟨oL, _, _, hoL, _⟩ := id hn
    refine h _ ⟨I.ok, I.os, I.bare, ⟨fun b o e n hb hx => ?_, fun b o e n hb hx => ?_, I.base.free, fun b o e hx => ?_, I.base.tups, I.base.frzs, I.base.tbls⟩, ⟨_, hn', fun j y v' e1 e2 e3 => ?_⟩, fun y c e => ?_, I.free, I.freeC, fun p hp => ?_, tracked ⟨oL, hoL, I.free⟩ hs, by simpa using I.len⟩ ⟨_, hs, .inl rfl⟩
    · exact (hs.2 b (Nat.ne_of_lt (Nat.lt_of_lt_of_le (Heap.lt_size e) I.ok.above))).trans (I.base.keep b o e n hb hx)
    · obtain ⟨sl, e1⟩ := I.base.slot b o e n hb hx
      exact ⟨sl, (hs.2 b (Nat.ne_of_lt (Nat.lt_of_lt_of_le (Heap.lt_size e) I.ok.above))).trans e1⟩
    · obtain ⟨o', e1⟩ := I.base.there b o e hx
      exact ⟨o', (hs.2 b (Nat.ne_of_lt (Nat.lt_of_lt_of_le (Heap.lt_size e) I.ok.above))).trans e1⟩
    · by_cases hj : j = i
      · subst hj
        rw [hi] at e1; cases e1
        rw [List.getElem?_set_self hiσ] at e2
        cases e2
        exact ⟨u, r, .inl ⟨hk, by simp⟩⟩
      · rw [List.getElem?_set_ne (Ne.symm hj)] at e2
        obtain ⟨u', r', q⟩ := hl j y v' e1 e2 e3
        refine ⟨u', r', ?_⟩
        rcases q with ⟨k, e⟩ | ⟨k, c, e, z⟩
        · refine .inl ⟨k, ?_⟩
          have : y ≠ x := fun e => hj (nodup_ix hN e1 (e ▸ hi))
          simp [this, e]
        · exact .inr ⟨k, c, e, z.sameBut hs (cne y c e)⟩
    · obtain ⟨w', z⟩ := I.cell y c e
      exact ⟨w', z.sameBut hs (cne y c e)⟩
    · obtain ⟨e, n, ne, nf, d⟩ := I.pin p hp
      exact ⟨(hs.2 p.1 ne).trans e, n, ne, nf, d⟩
  · have hfn : X.fn x = true := by
      rcases hf with z | z
      · exact z
      · rw [z] at hk; cases hk
    obtain ⟨c, hc⟩ := I.ok.has x (.inl hk)
    obtain ⟨w', z⟩ := I.cell x c hc
    refine wpAny_storeName_cell I.ok.kind hk hc z (fun h' hc' hs => ?_)
    obtain ⟨oc, hoc, hocd⟩ := id z
    refine h { s with heap := h' } ⟨I.ok, I.os, I.bare, ⟨fun b o e n hb hx => ?_, fun b o e n hb hx => ?_, I.base.free, fun b o e hx => ?_, I.base.tups, I.base.frzs, I.base.tbls⟩, ⟨m, hn.sameBut hs (Ne.symm (cne x c hc)), fun j y v' e1 e2 e3 => ?_⟩, fun y c' e => ?_, I.free, I.freeC, fun p hp => ?_, tracked ⟨oc, hoc, I.freeC x c hc⟩ hs, by simpa using I.len⟩ ⟨c, hs, .inr hc⟩
    · exact (hs.2 b (Nat.ne_of_lt (Nat.lt_of_lt_of_le (Heap.lt_size e) (I.ok.cab x c hfn hc)))).trans (I.base.keep b o e n hb hx)
    · obtain ⟨sl, e1⟩ := I.base.slot b o e n hb hx
      exact ⟨sl, (hs.2 b (Nat.ne_of_lt (Nat.lt_of_lt_of_le (Heap.lt_size e) (I.ok.cab x c hfn hc)))).trans e1⟩
    · obtain ⟨o', e1⟩ := I.base.there b o e hx
      exact ⟨o', (hs.2 b (Nat.ne_of_lt (Nat.lt_of_lt_of_le (Heap.lt_size e) (I.ok.cab x c hfn hc)))).trans e1⟩
    · by_cases hj : j = i
      · subst hj
        rw [hi] at e1; cases e1
        rw [List.getElem?_set_self hiσ] at e2
        cases e2
        exact ⟨u, r, .inr ⟨.inl hk, c, hc, hc'⟩⟩
      · rw [List.getElem?_set_ne (Ne.symm hj)] at e2
        obtain ⟨u', r', q⟩ := hl j y v' e1 e2 e3
        refine ⟨u', r', ?_⟩
        rcases q with q | ⟨k, c', e, z'⟩
        · exact .inl q
        · refine .inr ⟨k, c', e, z'.sameBut hs ?_⟩
          rintro rfl
          exact hj (nodup_ix hN e1 (I.ok.inj _ _ _ e hc ▸ hi))
    · by_cases hcc : c' = c
      · subst hcc; exact ⟨_, hc'⟩
      · obtain ⟨w2, z2⟩ := I.cell y c' e
        exact ⟨w2, z2.sameBut hs hcc⟩
    · obtain ⟨e, n, ne, nf, d⟩ := I.pin p hp
      refine ⟨(hs.2 p.1 ?_).trans e, n, ne, nf, d⟩
      intro q
      rw [q, hoc] at e
      have q' : oc = p.2 := Option.some.inj e
      exact d w' (by rw [← q']; exact hocd)
theorem store_ok {M : Model} {A : Around} {E : Value → Shared → Prop} {i : Nat} {x : Str} {v : V} {u : Value} {Q : Unit → Shared → Prop} (I : Inv X pins σ H s) (hN : X.N.Nodup) (hi : X.N[i]? = some x) (hx : Loc X.env.scope x) (r : RelV v u)
    (h : ∀ s', Inv X pins (σ.set i (some v)) H s' → Q () s') (hf : X.fn x = true ∨ X.env.scope.names.lookup x = some .local := by first | exact .inl rfl | exact .inr rfl | assumption) : wpAny M A (storeName X.env x u) Q E s :=
  store_ok2 I hN hi hx r (fun s' I' _ => h s' I') hf
theorem Inv.call' {s' : Shared} {ch : List Addr} (I : Inv X pins σ H s) (ho : s'.os = s.os) (u : Un (frs X.stack) ch H H' s.heap s'.heap) (hok : HOk X.prog X.w H' s'.heap) (hg : AllBare s'.gens)
    (hch : ∀ b ∈ ch, (b ∈ X.ex ∨ X.s₀.heap.objs.size ≤ b) ∧ b ≠ X.env.locals ∧ (∀ x c, X.env.cells.lookup x = some c → c ≠ b) ∧ ∀ p ∈ X.pn ++ pins, p.1 ≠ b) : Inv X pins σ H' s' := by
  obtain ⟨h', g', d', t', o'⟩ := s'
  have e : o' = s.os := ho
  subst e
  exact I.call (g' := g') (t' := t') (d' := d') u hok hg hch
end

noncomputable abbrev XK := Value → Option Addr → Hp → Prop
noncomputable abbrev St := List (Option V)
noncomputable abbrev VK := V → Hp → Prop
noncomputable abbrev TE := St → Hp → VK → Prop
noncomputable abbrev TT := St → Hp → (Bool → Hp → Prop) → Prop
noncomputable abbrev TA := St → Hp → (List V → Hp → Prop) → Prop
structure Ends where
  nx : St → Hp → Prop
  rt : VK
  bk : St → Hp → Prop := fun _ _ => False
  ct : St → Hp → Prop := fun _ _ => False
noncomputable abbrev TS := Ends → St → Hp → Prop
noncomputable def Ends.sq (D : Ends) (u : TS) : Ends := { D with nx := u D }
noncomputable def Ends.lp (D : Ends) (N : St → Hp → Prop) : Ends := { D with nx := N, ct := N, bk := D.nx }

inductive EP (X : Cx) (pins : List (Addr × Obj)) (σ : St) (Q : VK) (u : Value) (s' : Shared) : Prop
  | mk (v : V) (H' : Hp) (i : Inv X pins σ H' s') (r : RelV v u) (q : Q v H')
inductive TP (X : Cx) (pins : List (Addr × Obj)) (σ : St) (Q : Bool → Hp → Prop) (b : Bool) (s' : Shared) : Prop
  | mk (H' : Hp) (i : Inv X pins σ H' s') (q : Q b H')
inductive AP (X : Cx) (pins : List (Addr × Obj)) (σ : St) (Q : List V → Hp → Prop) (us : List Value) (s' : Shared) : Prop
  | mk (vs : List V) (H' : Hp) (i : Inv X pins σ H' s') (r : Vals vs us) (q : Q vs H')
noncomputable def SP (X : Cx) (pins : List (Addr × Obj)) (D : Ends) (f : Flow) (s' : Shared) : Prop :=
  match f with
  | .next => ∃ σ' H', Inv X pins σ' H' s' ∧ D.nx σ' H'
  | .brk => ∃ σ' H', Inv X pins σ' H' s' ∧ D.bk σ' H'
  | .cont => ∃ σ' H', Inv X pins σ' H' s' ∧ D.ct σ' H'
  | .ret u => ∃ v σ' H', Inv X pins σ' H' s' ∧ RelV v u ∧ D.rt v H'

noncomputable def PE (X : Cx) (e : Expr) (t : TE) : Prop :=
  ∀ (pins : List (Addr × Obj)) (s : Shared) (σ : St) (H : Hp) (Q : VK), Inv X pins σ H s → t σ H Q → wpAny (model X.prog X.w) X.A (eval e X.env) (EP X pins σ Q) X.xe s
noncomputable def PT (X : Cx) (e : Expr) (t : TT) : Prop :=
  ∀ (pins : List (Addr × Obj)) (s : Shared) (σ : St) (H : Hp) (Q : Bool → Hp → Prop), Inv X pins σ H s → t σ H Q → wpAny (model X.prog X.w) X.A (isTrue e X.env (eval e X.env)) (TP X pins σ Q) X.xe s
noncomputable def PW (X : Cx) (e : Expr) (t : TT) : Prop :=
  ∀ (whole : Sem Value) (pins : List (Addr × Obj)) (s : Shared) (σ : St) (H : Hp) (Q : Bool → Hp → Prop), Inv X pins σ H s → t σ H Q → wpAny (model X.prog X.w) X.A (isTrue e X.env whole) (TP X pins σ Q) X.xe s
theorem PW.pt {X : Cx} {e : Expr} {t : TT} (h : PW X e t) : PT X e t := h _
noncomputable def PA (X : Cx) (es : List Expr) (t : TA) : Prop :=
  ∀ (pos : Pos) (pins : List (Addr × Obj)) (s : Shared) (σ : St) (H : Hp) (Q : List V → Hp → Prop), Inv X pins σ H s → t σ H Q → wpAny (model X.prog X.w) X.A (spliced (backTo pos (starEach es X.env))) (AP X pins σ Q) X.xe s
noncomputable def PS (X : Cx) (st : Stmt) (t : TS) : Prop :=
  ∀ (pins : List (Addr × Obj)) (s : Shared) (σ : St) (H : Hp) (D : Ends), Inv X pins σ H s → t D σ H → wpAny (model X.prog X.w) X.A (exec st X.env) (SP X pins D) X.xe s
noncomputable def PSs (X : Cx) (st : List Stmt) (t : TS) : Prop :=
  ∀ (pins : List (Addr × Obj)) (s : Shared) (σ : St) (H : Hp) (D : Ends), Inv X pins σ H s → t D σ H → wpAny (model X.prog X.w) X.A (execs st X.env) (SP X pins D) X.xe s
theorem thn {α : Type} {t : Sem α} {Q Q' : α → Shared → Prop} {M : Model} {A : Around} {E : Value → Shared → Prop} {s : Shared} (h : wpAny M A t Q E s) (hQ : ∀ a s, Q a s → Q' a s) : wpAny M A t Q' E s := wpAny_mono h hQ fun _ _ x => x
end L2

namespace L2
open PySem PySem.Spec PyProof.Rows
section
variable {X : Cx}


inductive tVarP (i : Nat) (σ : St) (H : Hp) (Q : VK) : Prop
  | mk (v : _) (h_0 : σ[i]? = some (some v)) (h_1 : Q v H)
noncomputable def tVar (i : Nat) : TE := fun σ H Q => tVarP i σ H Q
noncomputable def tC (v : V) : TE := fun _ H Q => Q v H
theorem pe_var {i : Nat} {x : Str} {pos : Pos} (hN : X.N[i]? = some x) (hv : Vis X.env.scope x) (hd : (x == ("__debug__" : Str)) = false := by decide) (hcd : (x == ("__classdict__" : Str)) = false := by decide) : PE X (.Name x pos) (tVar i) := by
  intro pins s σ H Q I h
  obtain ⟨v, e, h⟩ := h
  obtain ⟨m, hn, hl⟩ := I.loc
  obtain ⟨u, r, l⟩ := hl i x v hN e hv
  have fin : EP X pins σ Q u s := ⟨v, H, I, r, h⟩
  rcases l with ⟨hk, hm⟩ | ⟨hk, c, hc, hcell⟩
  · exact wpAny_Name (wpAny_loadName_local I.ok.kind hk hn hm fin) hd
  · rcases hk with hk | hk
    · exact wpAny_Name (wpAny_loadName_cell I.ok.kind hk hc hcell fin) hd
    · exact wpAny_Name (wpAny_loadName_free I.ok.kind hk hc hcell fin hcd) hd
theorem pe_int {i j pos} : PE X (.Constant (.int i) j pos) (tC (.int i)) := fun _ _ _ H _ I h => wpAny_Constant_int ⟨.int i, H, I.tok _, ⟨_, rfl⟩, h⟩
theorem pe_bl {b j pos} : PE X (.Constant (.bool b) j pos) (tC (.bl b)) := fun _ _ _ H _ I h => Constant_bool ⟨.bl b, H, I, rfl, h⟩
theorem pe_non {j pos} : PE X (.Constant .none j pos) (tC .non) := fun _ _ _ H _ I h => Constant_none ⟨.non, H, I, rfl, h⟩
theorem pe_str {x j pos} : PE X (.Constant (.str x) j pos) (tC (.str x)) := fun _ _ _ H _ I h => Calls.Constant_str ⟨.str x, H, I.tok _, ⟨_, rfl⟩, h⟩

noncomputable def Gl (X : Cx) (x : Str) : Prop := X.env.kindOf x = some .globalImplicit
theorem ld_glob {E : Value → Shared → Prop} {pins : List (Addr × Obj)} {s : Shared} {σ : St} {H : Hp} {x : Str} {u : Value} {pos : Pos} {Q : Value → Shared → Prop} (I : Inv X pins σ H s) (hg : Gl X x) (hm : X.mg x = some u) (h : Q u s)
    (hd : (x == ("__debug__" : Str)) = false := by decide) : wpAny (model X.prog X.w) X.A (eval (.Name x pos) X.env) Q E s :=
  Calls.Name_function_global I.ok.kind hg (Calls.loadGlobal_global (by rw [I.ok.glob]; exact I.mod.glob.keeps I.bk) hm h) hd
theorem ld_blt {E : Value → Shared → Prop} {pins : List (Addr × Obj)} {s : Shared} {σ : St} {H : Hp} {x : Str} {u : Value} {pos : Pos} {Q : Value → Shared → Prop} (I : Inv X pins σ H s) (hg : Gl X x) (hm : X.mg x = none) (hv : bootBuiltins x = some u) (h : Q u s)
    (hn : x ≠ "__name__" := by decide) (hd : (x == ("__debug__" : Str)) = false := by decide) : wpAny (model X.prog X.w) X.A (eval (.Name x pos) X.env) Q E s := by
  obtain ⟨mb, h1, h2⟩ := I.mod.blt
  exact Calls.Name_function_global I.ok.kind hg (Calls.loadGlobal_builtin (by rw [I.ok.glob]; exact I.mod.glob.keeps I.bk) hm (by rw [I.ok.blt]; exact h1.keeps I.bk) ((h2 x hn).trans hv) h) hd
theorem pe_glob {x : Str} {v : V} {u : Value} {pos : Pos} (hg : Gl X x) (hm : X.mg x = some u) (r : RelV v u) (hd : (x == ("__debug__" : Str)) = false := by decide) : PE X (.Name x pos) (tC v) :=
  fun _ _ _ H _ I h => ld_glob I hg hm ⟨v, H, I, r, h⟩ hd
theorem pe_bltn {x : Str} {v : V} {u : Value} {pos : Pos} (hg : Gl X x) (hm : X.mg x = none) (hv : bootBuiltins x = some u) (r : RelV v u) (hn : x ≠ "__name__" := by decide) (hd : (x == ("__debug__" : Str)) = false := by decide) : PE X (.Name x pos) (tC v) :=
  fun _ _ _ H _ I h => ld_blt I hg hm hv ⟨v, H, I, r, h⟩ hn hd

variable {a b : Expr} {ta tb : TE} {pos : Pos}

noncomputable def PC (X : Cx) (op : CmpOp) (a b : Expr) (t : TE) : Prop :=
  ∀ (pins : List (Addr × Obj)) (s : Shared) (σ : St) (H : Hp) (Q : VK), Inv X pins σ H s → t σ H Q →
    wpAny (model X.prog X.w) X.A (eval a X.env) (fun v s₁ => wpAny (model X.prog X.w) X.A (eval b X.env) (fun u s₂ => wpAny (model X.prog X.w) X.A (compareOp op v u) (EP X pins σ Q) X.xe s₂) X.xe s₁) X.xe s
inductive BoolP (x : V) (H : Hp) (Q : Bool → Hp → Prop) : Prop
  | mk (c : Bool) (h : x = .bl c) (q : Q c H)
noncomputable def tB (t : TE) : TT := fun σ H Q => t σ H fun x H1 => BoolP x H1 Q
theorem pt_cmp {op : CmpOp} {t : TE} (h : PC X op a b t) (h1 : behindInMarks op b = false := by first | exact nobehind _ (by decide) (by decide) | rfl) : PT X (.Compare a [op] [b] pos) (tB t) := by
  intro pins s σ H Q I hw
  refine wpAny_isTrue_Compare1 (thn (h pins s σ H _ I hw) fun v s1 h1 => thn h1 fun u s2 h2 => thn h2 fun c s3 ⟨x, H1, I1, r1, q1⟩ => ?_) h1
  obtain ⟨d, rfl, q⟩ := q1
  cases r1
  exact wpAny_truthy_bool ⟨H1, I1, q⟩
theorem pt_val {e : Expr} {t : TE} (h : PE X e t) (he : ∀ whole, isTrue e X.env whole = (do let v ← whole; standAt e.pos; holding [v] (truthy v)) := by intro _; rfl) : PT X e (tB t) := by
  intro pins s σ H Q I hw
  refine isTrue_plain (thn (h pins s σ H _ I hw) fun v s1 ⟨x, H1, I1, r1, q1⟩ => ?_) (he _)
  obtain ⟨d, rfl, q⟩ := q1
  cases r1
  exact wpAny_truthy_bool ⟨H1, I1, q⟩

variable {tA tB' : TT} {rest : List Expr}
noncomputable def tAnd (t u : TT) : TT := fun σ H Q => t σ H fun c H1 => if c = true then u σ H1 Q else Q false H1
noncomputable def tOr (t u : TT) : TT := fun σ H Q => t σ H fun c H1 => if c = true then Q true H1 else u σ H1 Q
noncomputable def tNot (t : TT) : TT := fun σ H Q => t σ H fun c H1 => Q (!c) H1
theorem pw_and1 (ha : PT X a tA) : PW X (.BoolOp .And [a] pos) tA := by
  intro wh pins s σ H Q I h
  refine isTrue_and (thn (ha pins s σ H Q I h) fun c s1 e => ?_)
  cases c with
  | true => exact isTrue_and_nil e
  | false => exact e
theorem pw_or1 (ha : PT X a tA) : PW X (.BoolOp .Or [a] pos) tA := by
  intro wh pins s σ H Q I h
  refine isTrue_or (thn (ha pins s σ H Q I h) fun c s1 e => ?_)
  cases c with
  | false => exact isTrue_or_nil e
  | true => exact e
theorem pw_and (ha : PT X a tA) (hb : PW X (.BoolOp .And (b :: rest) pos) tB') : PW X (.BoolOp .And (a :: b :: rest) pos) (tAnd tA tB') := by
  intro wh pins s σ H Q I h
  refine isTrue_and (thn (ha pins s σ H _ I h) fun c s1 z_ => ?_)
  obtain ⟨H1, I1, q1⟩ := z_
  cases c with
  | true => exact hb wh pins s1 σ H1 Q I1 q1
  | false => exact ⟨H1, I1, q1⟩
theorem pw_or (ha : PT X a tA) (hb : PW X (.BoolOp .Or (b :: rest) pos) tB') : PW X (.BoolOp .Or (a :: b :: rest) pos) (tOr tA tB') := by
  intro wh pins s σ H Q I h
  refine isTrue_or (thn (ha pins s σ H _ I h) fun c s1 z_ => ?_)
  obtain ⟨H1, I1, q1⟩ := z_
  cases c with
  | true => exact ⟨H1, I1, q1⟩
  | false => exact hb wh pins s1 σ H1 Q I1 q1
theorem pt_not (ha : PT X a tA) : PT X (.UnaryOp .Not a pos) (tNot tA) := by
  intro pins s σ H Q I h
  exact isTrue_not (thn (ha pins s σ H (fun c H1 => Q (!c) H1) I h) fun c s1 ⟨H1, I1, q1⟩ => ⟨H1, I1, q1⟩)
noncomputable def tAndV (ta tb : TE) : TE := fun σ H Q => ta σ H fun x H1 => BoolP x H1 fun c H1 => if c = true then tb σ H1 Q else Q (.bl false) H1
noncomputable def tOrV (ta tb : TE) : TE := fun σ H Q => ta σ H fun x H1 => BoolP x H1 fun c H1 => if c = true then Q (.bl true) H1 else tb σ H1 Q
theorem pe_one {op} {t : TE} (h : PE X a t) : PE X (.BoolOp op [a] pos) t := fun pins s σ H Q I hw => BoolOp_one (h pins s σ H Q I hw)
theorem pe_and (ha : PE X a ta) (hb : PE X (.BoolOp .And (b :: rest) pos) tb) : PE X (.BoolOp .And (a :: b :: rest) pos) (tAndV ta tb) := by
  intro pins s σ H Q I h
  refine BoolOp_and (thn (ha pins s σ H _ I h) fun v s1 z_ => ?_)
  obtain ⟨x, H1, I1, r1, q1⟩ := z_
  obtain ⟨c, rfl, q1⟩ := q1
  cases r1
  refine wpAny_truthy_bool ?_
  cases c with
  | true => exact hb pins s1 σ H1 Q I1 q1
  | false => exact ⟨.bl false, H1, I1, rfl, q1⟩
theorem pe_or (ha : PE X a ta) (hb : PE X (.BoolOp .Or (b :: rest) pos) tb) : PE X (.BoolOp .Or (a :: b :: rest) pos) (tOrV ta tb) := by
  intro pins s σ H Q I h
  refine BoolOp_or (thn (ha pins s σ H _ I h) fun v s1 z_ => ?_)
  obtain ⟨x, H1, I1, r1, q1⟩ := z_
  obtain ⟨c, rfl, q1⟩ := q1
  cases r1
  refine wpAny_truthy_bool ?_
  cases c with
  | false => exact hb pins s1 σ H1 Q I1 q1
  | true => exact ⟨.bl true, H1, I1, rfl, q1⟩
end
end L2

namespace L2
open PySem PySem.Spec PyProof.Rows

noncomputable def SqL (K : PySem.W.Frag) (H : Hp) (a : Addr) (xs : List V) : Prop :=
  Rd H a (.lst xs) ∨
    ∃ (o : Obj) (its : Array Value) (n : Nat), K.lookup a = some o ∧ o.cls = .type "list" ∧ o.dict = none ∧ o.data = .seq its n ∧ its.size ≤ sizeLine ∧ Vals xs its.toList
noncomputable def SqT (K : PySem.W.Frag) (H : Hp) (a : Addr) (xs : List V) : Prop :=
  Rd H a (.tup xs) ∨
    ∃ (o : Obj) (its : Array Value) (n : Nat), K.lookup a = some o ∧ o.cls = .type "tuple" ∧ o.data = .seq its n ∧ its.size ≤ sizeLine ∧ Vals xs its.toList
noncomputable def absV : Value → Option V
  | .none => some .non
  | .bool b => some (.bl b)
  | .int i _ => some (.int i)
  | .str x _ => some (.str x)
  | .bytes b _ => some (.byt b)
  | .float b _ => some (.flt b)
  | .ref a => some (.ref a)
  | .type n => some (.ty n)
  | _ => none
theorem RelV.abs {x : V} {u : Value} (r : RelV x u) : absV u = some x := by
  cases x with
  | non => cases r; rfl
  | bl _ => cases r; rfl
  | int _ => obtain ⟨t, rfl⟩ := r; rfl
  | str _ => obtain ⟨t, rfl⟩ := r; rfl
  | byt _ => obtain ⟨t, rfl⟩ := r; rfl
  | flt _ => obtain ⟨t, rfl⟩ := r; rfl
  | ref _ => cases r; rfl
  | ty _ => cases r; rfl
theorem RelV.inj {x y : V} {u : Value} (r : RelV x u) (q : RelV y u) : x = y := Option.some.inj (r.abs.symm.trans q.abs)
theorem Vals.inj {xs ys : List V} {us : List Value} (h : Vals xs us) (k : Vals ys us) : xs = ys := by
  induction h generalizing ys with
  | nil => cases k; rfl
  | cons r t ih => cases k with
    | cons r' t' => rw [r.inj r', ih t']
section
variable {X : Cx} {pins : List (Addr × Obj)} {σ : St} {H : Hp} {s : Shared} {a : Addr} {xs ys : List V}
theorem SqL.of {K : PySem.W.Frag} (h : H a = some (.lst xs)) : SqL K H a xs := .inl (.inl h)
theorem SqT.of {K : PySem.W.Frag} (h : H a = some (.tup xs)) : SqT K H a xs := .inl (.inl h)
theorem Inv.list (I : Inv X pins σ H s) (h : SqL X.K H a xs) : ∃ its : List Value, Vals xs its ∧ PlainL s.heap a its.toArray ∧ xs.length ≤ sizeLine := by
  rcases h with h | ⟨o, its, n, hk, hc, hd, hs, hz, r⟩
  · obtain ⟨z, its, n, r, e⟩ := h.ok I.hok
    exact ⟨its, r, ⟨_, n, e, rfl, rfl, rfl⟩, z⟩
  · refine ⟨its.toList, r, ⟨o, n, I.kIn a o hk, hc, hd, by simpa using hs⟩, ?_⟩
    have e := r.length
    simp only [Array.length_toList] at e
    lia
theorem Inv.tuple (I : Inv X pins σ H s) (h : SqT X.K H a xs) : ∃ its : List Value, Vals xs its ∧ IsTup s.heap a its.toArray ∧ xs.length ≤ sizeLine := by
  rcases h with h | ⟨o, its, n, hk, hc, hs, hz, r⟩
  · obtain ⟨z, its, r, p⟩ := h.ok I.hok
    exact ⟨its, r, p, z⟩
  · refine ⟨its.toList, r, ⟨o, I.kIn a o hk, hc, n, by simpa using hs⟩, ?_⟩
    have e := r.length
    simp only [Array.length_toList] at e
    lia
theorem Inv.list_inj (I : Inv X pins σ H s) (h : SqL X.K H a xs) (h' : SqL X.K H a ys) : xs = ys := by
  obtain ⟨its, r, ⟨o, n, e, _, _, d⟩, _⟩ := I.list h
  obtain ⟨its', r', ⟨o', n', e', _, _, d'⟩, _⟩ := I.list h'
  rw [e] at e'; cases e'
  rw [d] at d'
  injection d' with d1 _
  have : its = its' := by simpa using congrArg Array.toList d1
  subst this
  exact r.inj r'
theorem Inv.tuple_inj (I : Inv X pins σ H s) (h : SqT X.K H a xs) (h' : SqT X.K H a ys) : xs = ys := by
  obtain ⟨its, r, ⟨o, e, _, n, d⟩, _⟩ := I.tuple h
  obtain ⟨its', r', ⟨o', e', _, n', d'⟩, _⟩ := I.tuple h'
  rw [e] at e'; cases e'
  rw [d] at d'
  injection d' with d1 _
  have : its = its' := by simpa using congrArg Array.toList d1
  subst this
  exact r.inj r'
end

noncomputable abbrev Cx.wish (X : Cx) (E : Value → Shared → Prop) : Cx := { X with xe := E }
noncomputable abbrev Cx.nox (X : Cx) : Cx := X.wish fun _ _ => False
theorem Cx.Ok.wish {X : Cx} (ok : X.Ok) (E : Value → Shared → Prop) : (X.wish E).Ok :=
  ⟨ok.mod, ok.kind, ok.glob, ok.blt, ok.above, ok.inj, ok.has, ok.cab, ok.hd, ok.frames, ok.stk, ok.exf, ok.bs, ok.bsz, ok.noex, ok.exfs, ok.funs, ok.frf⟩
theorem Cx.Ok.unwish {X : Cx} {E : Value → Shared → Prop} (ok : (X.wish E).Ok) : X.Ok :=
  ⟨ok.mod, ok.kind, ok.glob, ok.blt, ok.above, ok.inj, ok.has, ok.cab, ok.hd, ok.frames, ok.stk, ok.exf, ok.bs, ok.bsz, ok.noex, ok.exfs, ok.funs, ok.frf⟩
section
variable {X : Cx} {pins : List (Addr × Obj)} {σ : St} {H : Hp} {s : Shared} {E : Value → Shared → Prop}
theorem Inv.wish (I : Inv X pins σ H s) (E : Value → Shared → Prop) : Inv (X.wish E) pins σ H s := ⟨I.ok.wish E, I.os, I.bare, I.base, I.loc, I.cell, I.free, I.freeC, I.pin, I.hok, I.len⟩
theorem Inv.unwish (I : Inv (X.wish E) pins σ H s) : Inv X pins σ H s := ⟨I.ok.unwish, I.os, I.bare, I.base, I.loc, I.cell, I.free, I.freeC, I.pin, I.hok, I.len⟩
theorem SP.unwish {D : Ends} {f : Flow} {s' : Shared} (h : SP (X.wish E) pins D f s') : SP X pins D f s' := by
  cases f with
  | next => obtain ⟨σ', H', I, q⟩ := h; exact ⟨σ', H', I.unwish, q⟩
  | brk => obtain ⟨σ', H', I, q⟩ := h; exact ⟨σ', H', I.unwish, q⟩
  | cont => obtain ⟨σ', H', I, q⟩ := h; exact ⟨σ', H', I.unwish, q⟩
  | ret u => obtain ⟨v, σ', H', I, r, q⟩ := h; exact ⟨v, σ', H', I.unwish, r, q⟩
theorem PSs.nox {st : List Stmt} {t : TS} (h : PSs X.nox st t) : PSs X st t := fun pins s σ H D I hw =>
  wpAny_mono (h pins s σ H D (I.wish _) hw) (fun _ _ q => q.unwish) fun _ _ z => False.elim z
end

section
variable {X : Cx} {st : Stmt} {rest : List Stmt} {t u : TS} {e : Expr} {te : TE} {pos : Pos}
noncomputable def tNext : TS := fun D σ H => D.nx σ H
noncomputable def tSeq (t u : TS) : TS := fun D σ H => t (D.sq u) σ H
theorem pss_nil : PSs X [] tNext := fun _ _ σ H _ I h => wpAny_execs_nil ⟨σ, H, I, h⟩
theorem pss_cons (h1 : PS X st t) (h2 : PSs X rest u) : PSs X (st :: rest) (tSeq t u) := by
  intro pins s σ H D I h
  refine wpAny_execs_cons (thn (h1 pins s σ H (D.sq u) I h) fun f s1 q => ?_)
  cases f with
  | next =>
    obtain ⟨σ', H', I', q⟩ := q
    exact h2 pins s1 σ' H' D I' q
  | ret v => exact q
  | brk => exact q
  | cont => exact q
theorem pss_one (h1 : PS X st t) : PSs X [st] t := by
  intro pins s σ H D I h
  refine wpAny_execs_cons (thn (h1 pins s σ H D I h) fun f s1 q => ?_)
  cases f with
  | next => exact wpAny_execs_nil q
  | ret v => exact q
  | brk => exact q
  | cont => exact q
theorem Inv.quiet {pins : List (Addr × Obj)} {σ : St} {H : Hp} {s : Shared} (I : Inv X pins σ H s) : interactive X.env = false := by simp [interactive, I.ok.kind]
noncomputable def tDrop (te : TE) : TS := fun D σ H => te σ H fun _ H1 => D.nx σ H1
theorem ps_expr (he : PE X e te) (hs : swapsWith e none pos.line X.env = pure false := by rfl) : PS X (.Expr e pos) (tDrop te) := by
  intro pins s σ H D I h
  exact wpAny_Expr_any (thn (he pins s σ H _ I h) fun v s1 ⟨x, H1, I1, r1, q1⟩ => ⟨σ, H1, I1, q1⟩) I.quiet hs
noncomputable def tRet (te : TE) : TS := fun D σ H => te σ H D.rt
theorem ps_ret (he : PE X e te) : PS X (.Return (some e) pos) (tRet te) := by
  intro pins s σ H D I h
  exact wpAny_Return_some (thn (he pins s σ H _ I h) fun v s1 ⟨x, H1, I1, r1, q1⟩ => ⟨x, σ, H1, I1, r1, q1⟩)
noncomputable def tIfS (c : TT) (t u : TS) : TS := fun D σ H => c σ H fun b H1 => if b = true then t D σ H1 else u D σ H1
theorem ps_if {c : Expr} {a b : List Stmt} {tc : TT} (hc : PT X c tc) (ha : PSs X a t) (hb : PSs X b u) : PS X (.If c a b pos) (tIfS tc t u) := by
  intro pins s σ H D I h
  refine wpAny_If (thn (hc pins s σ H _ I h) fun d s1 z_ => ?_)
  obtain ⟨H1, I1, q1⟩ := z_
  cases d with
  | true => exact ha pins s1 σ H1 D I1 q1
  | false => exact hb pins s1 σ H1 D I1 q1
end

noncomputable abbrev TG := V → St → Hp → (St → Hp → Prop) → Prop
noncomputable abbrev TGs := List V → St → Hp → (St → Hp → Prop) → Prop
noncomputable def PG (X : Cx) (target : Expr) (t : TG) : Prop :=
  ∀ (pins : List (Addr × Obj)) (s : Shared) (σ : St) (H : Hp) (v : V) (u : Value) (Q : St → Hp → Prop), Inv X pins σ H s → RelV v u → t v σ H Q →
    wpAny (model X.prog X.w) X.A (assign target X.env u) (fun _ s' => ∃ σ' H', Inv X pins σ' H' s' ∧ Q σ' H') X.xe s
noncomputable def PGs (X : Cx) (ts : List Expr) (t : TGs) : Prop :=
  ∀ (pins : List (Addr × Obj)) (s : Shared) (σ : St) (H : Hp) (vs : List V) (us : List Value) (Q : St → Hp → Prop), Inv X pins σ H s → Vals vs us → t vs σ H Q →
    wpAny (model X.prog X.w) X.A (assignInOrder ((assignEach ts X.env).map (·.2)) us) (fun _ s' => ∃ σ' H', Inv X pins σ' H' s' ∧ Q σ' H') X.xe s
noncomputable abbrev TSet := V → V → V → Hp → (Hp → Prop) → Prop
noncomputable def PSet (X : Cx) (t : TSet) : Prop :=
  ∀ (pins : List (Addr × Obj)) (s : Shared) (σ : St) (H : Hp) (o i v : V) (ov iv u : Value) (Q : Hp → Prop), Inv X pins σ H s → RelV o ov → RelV i iv → RelV v u → t o i v H Q →
    wpAny (model X.prog X.w) X.A (setItem ov iv u) (fun _ s' => ∃ H', Inv X pins σ H' s' ∧ Q H') X.xe s
noncomputable abbrev TIp := V → V → Hp → VK → Prop
noncomputable def PIp (X : Cx) (op : Operator) (t : TIp) : Prop :=
  ∀ (pins : List (Addr × Obj)) (s : Shared) (σ : St) (H : Hp) (x y : V) (v u : Value) (Q : VK), Inv X pins σ H s → RelV x v → RelV y u → t x y H Q →
    wpAny (model X.prog X.w) X.A (inplaceOp op v u) (EP X pins σ Q) X.xe s
section
variable {X : Cx} {pos : Pos}
noncomputable def gName (i : Nat) : TG := fun v σ H Q => Q (σ.set i (some v)) H
theorem pg_name {i : Nat} {x : Str} (hN : X.N.Nodup) (hi : X.N[i]? = some x) (hx : Loc X.env.scope x) (hf : X.fn x = true ∨ X.env.scope.names.lookup x = some .local := by first | exact .inl rfl | exact .inr rfl | assumption) : PG X (.Name x pos) (gName i) := by
  intro pins s σ H v u Q I r h
  exact wpAny_assign_Name (store_ok I hN hi hx r (fun s' I' => ⟨_, H, I', h⟩) hf)
noncomputable def gNil : TGs := fun vs σ H Q => vs = [] ∧ Q σ H
noncomputable def gCons (t : TG) (u : TGs) : TGs := fun vs σ H Q => ∃ v r, vs = v :: r ∧ t v σ H fun σ' H' => u r σ' H' Q
theorem pgs_nil : PGs X [] gNil := by
  intro pins s σ H vs us Q I r h
  obtain ⟨e, h⟩ := h
  subst e
  cases r
  exact assignInOrder_nil ⟨σ, H, I, h⟩
theorem pgs_cons {e : Expr} {es : List Expr} {t : TG} {u : TGs} (h1 : PG X e t) (h2 : PGs X es u)
    (hs : (assignEach (e :: es) X.env).map (·.2) = assign e X.env :: (assignEach es X.env).map (·.2) := by rfl) : PGs X (e :: es) (gCons t u) := by
  intro pins s σ H vs us Q I r h
  obtain ⟨v, vr, e1, h⟩ := h
  subst e1
  cases r with
  | cons r rr =>
    rw [hs]
    refine assignInOrder_cons (thn (h1 pins s σ H _ _ _ I r h) fun _ s1 z_ => ?_)
    obtain ⟨σ1, H1, I1, q1⟩ := z_
    exact h2 pins s1 σ1 H1 _ _ Q I1 rr q1
noncomputable def gTup (K : PySem.W.Frag) (n : Nat) (t : TGs) : TG := fun v σ H Q => ∃ a xs, v = .ref a ∧ SqT K H a xs ∧ xs.length = n ∧ t xs σ H Q
theorem pg_tup {es : List Expr} {k : Nat} {t : TGs} {n : Nat} (hc : X.calm = true) (h : PGs X es t)
    (hn : (assignEach es X.env).length = n := by rfl) (hst : (assignEach es X.env).findIdx? (·.1) = none := by rfl) : PG X (.Tuple es k pos) (gTup X.K n t) := by
  intro pins s σ H v u Q I r hw
  obtain ⟨a, xs, e1, hq, hl, hw⟩ := hw
  subst e1
  cases r
  obtain ⟨its, rv, ht, hz⟩ := I.tuple hq
  refine assign_Tuple_tuple (I.ok.hd hc) ht (by simp [hn, ← hl, rv.length]) hst fun h' hx => ?_
  have I1 : Inv X pins σ H { s with heap := h' } := I.kept (t' := s.toks) fun b o e => hx b o (Nat.ne_of_lt (Heap.lt_size e)) e
  exact h pins _ σ H xs _ Q I1 (by simpa using rv) hw
noncomputable def tAsg (te : TE) (g : TG) : TS := fun D σ H => te σ H fun x H1 => g x σ H1 D.nx
theorem ps_set {i : Nat} {x : Str} {e : Expr} {te : TE} {pos' : Pos} (hN : X.N.Nodup) (hi : X.N[i]? = some x) (hx : Loc X.env.scope x) (he : PE X e te) (hs : swapsWith e (some (.Name x pos')) pos.line X.env = pure false := by rfl) (hf : X.fn x = true ∨ X.env.scope.names.lookup x = some .local := by first | exact .inl rfl | exact .inr rfl | assumption) :
    PS X (.Assign [.Name x pos'] e pos) (tAsg te (gName i)) := by
  intro pins s σ H D I h
  refine wpAny_Assign_Name (thn (he pins s σ H _ I h) fun v s1 ⟨y, H1, I1, r1, q1⟩ => ?_) hs
  exact store_ok I1 hN hi hx r1 (fun s2 I2 => ⟨_, H1, I2, q1⟩) hf
noncomputable def tAugS (to ti te : TE) (tget : V → V → Hp → VK → Prop) (tip : TIp) (tset : TSet) : TS := fun D σ H => to σ H fun o H1 => ti σ H1 fun i H2 => tget o i H2 fun x H3 => te σ H3 fun y H4 => tip x y H4 fun z H5 => tset o i z H5 fun H6 => D.nx σ H6
noncomputable def PGet (X : Cx) (t : V → V → Hp → VK → Prop) : Prop :=
  ∀ (pins : List (Addr × Obj)) (s : Shared) (σ : St) (H : Hp) (o i : V) (ov iv : Value) (Q : VK), Inv X pins σ H s → RelV o ov → RelV i iv → t o i H Q →
    wpAny (model X.prog X.w) X.A (getItem ov iv) (EP X pins σ Q) X.xe s
theorem ps_augS {o i e : Expr} {to ti te : TE} {tget : V → V → Hp → VK → Prop} {tip : TIp} {tset : TSet} {op : Operator} {tpos : Pos} (ho : PE X o to) (hi : PE X i ti) (hg : PGet X tget) (he : PE X e te) (hp : PIp X op tip) (hs : PSet X tset)
    (ha : ∀ ov iv new, augStore i ov iv new = (do holding [new, ov, iv] (setItem ov iv new); release [new, ov, iv] []; pure .next) := by intros; rfl) : PS X (.AugAssign (.Subscript o i tpos) op e pos) (tAugS to ti te tget tip tset) := by
  intro pins s σ H D I h
  refine wpAny_AugAssign_SubscriptAny (thn (ho pins s σ H _ I h) fun ov s1 ⟨x1, H1, I1, r1, q1⟩ => ?_) ha
  refine thn (hi pins s1 σ H1 _ I1 q1) fun iv s2 z_ => ?_
  obtain ⟨x2, H2, I2, r2, q2⟩ := z_
  refine thn (hg pins s2 σ H2 x1 x2 ov iv _ I2 r1 r2 q2) fun old s3 z_ => ?_
  obtain ⟨x3, H3, I3, r3, q3⟩ := z_
  refine thn (he pins s3 σ H3 _ I3 q3) fun v s4 z_ => ?_
  obtain ⟨x4, H4, I4, r4, q4⟩ := z_
  refine thn (hp pins s4 σ H4 x3 x4 old v _ I4 r3 r4 q4) fun new s5 z_ => ?_
  obtain ⟨x5, H5, I5, r5, q5⟩ := z_
  exact thn (hs pins s5 σ H5 x1 x2 x5 ov iv new _ I5 r1 r2 r5 q5) fun _ s6 ⟨H6, I6, q6⟩ => ⟨σ, H6, I6, q6⟩
noncomputable def ipI (f : Int → Int → Int) : TIp := fun x y H Q => ∃ i j, x = .int i ∧ y = .int j ∧ Q (.int (f i j)) H
theorem ip_add : PIp X .Add (ipI fun i j => i + j) := by
  intro pins s σ H x y v u Q I r1 r2 h
  obtain ⟨i, j, e1, e2, q⟩ := h
  subst e1; subst e2
  obtain ⟨t, rfl⟩ := r1
  obtain ⟨t', rfl⟩ := r2
  exact iadd_int ⟨.int _, H, I.tok _, ⟨_, rfl⟩, q⟩
end

section
variable {X : Cx} {pos : Pos}
noncomputable def tWhile (c : TT) (tb : TS) : TS := fun D σ H => ∃ W : Nat → St → Hp → Prop, (∃ m, W m σ H) ∧ ∀ m σ H, W m σ H →
  c σ H fun b H1 => if b = true then ∃ N : St → Hp → Prop, (∀ σ' H', N σ' H' → ∃ m', m' < m ∧ W m' σ' H') ∧ tb (D.lp N) σ H1 else D.nx σ H1
theorem ps_while {c : Expr} {body : List Stmt} {tc : TT} {tb : TS} (hp : PassesOwn (model X.prog X.w) X.A X.env X.xe) (hc : PT X c tc) (hb : PSs X body tb) : PS X (.While c body [] pos) (tWhile tc tb) := by
  intro pins s σ H D I h
  obtain ⟨W, ⟨m0, w0⟩, turn⟩ := h
  refine wpAny_While (codeAny_whileLoop (fun n s' => ∃ σ' H', Inv X pins σ' H' s' ∧ W n σ' H') ?_ m0 ⟨σ, H, I, w0⟩)
  rintro n s1 ⟨σ1, H1, I1, w1⟩
  refine wpAny_passesOwn hp (thn (hc pins s1 σ1 H1 _ I1 (turn n σ1 H1 w1)) fun b s2 z_ => ?_)
  obtain ⟨H2, I2, q2⟩ := z_
  cases b with
  | true =>
    obtain ⟨N, hN, q2⟩ := q2
    rw [if_pos rfl]
    refine wpAny_passesOwn hp (thn (hb pins s2 σ1 H2 _ I2 q2) fun f s3 q3 => ?_)
    cases f with
    | next =>
      obtain ⟨σ3, H3, I3, n3⟩ := q3
      obtain ⟨m', hm, w3⟩ := hN σ3 H3 n3
      exact ⟨m', hm, σ3, H3, I3, w3⟩
    | cont =>
      obtain ⟨σ3, H3, I3, n3⟩ := q3
      obtain ⟨m', hm, w3⟩ := hN σ3 H3 n3
      exact ⟨m', hm, σ3, H3, I3, w3⟩
    | brk => exact q3
    | ret v => exact q3
  | false =>
    rw [if_neg Bool.false_ne_true]
    exact wpAny_execs_nil ⟨σ1, H2, I2, q2⟩
end

structure It where
  go : Nat → Hp → Prop
  yld : Nat → Hp → V → Hp → Prop
  stop : Nat → Hp → Prop
noncomputable def FpOk (X : Cx) (pins : List (Addr × Obj)) (H : Hp) (b : Addr) : Prop :=
  H b = none ∧ b ≠ X.env.locals ∧ b ∉ X.fs ∧ (b ∈ X.ex ∨ X.s₀.heap.objs.size ≤ b) ∧ (∀ x c, X.env.cells.lookup x = some c → c ≠ b) ∧ ∀ p ∈ X.pn ++ pins, p.1 ≠ b
theorem Inv.fpOk {X : Cx} {pins : List (Addr × Obj)} {σ : St} {H H' : Hp} {s : Shared} {b : Addr} (I : Inv X pins σ H s) (hb : s.heap.objs.size ≤ b) (hn : H' b = none) : FpOk X pins H' b := by
  refine ⟨hn, Nat.ne_of_gt (Nat.lt_of_lt_of_le I.lt hb), I.nofs hb, .inr (Nat.le_trans I.sz hb), fun x c e z => ?_, fun p hp z => ?_⟩
  · obtain ⟨v, q⟩ := I.cell x c e
    exact absurd (Nat.lt_of_lt_of_le q.lt (by rw [z]; exact hb)) (Nat.lt_irrefl _)
  · exact absurd (Nat.lt_of_lt_of_le (Heap.lt_size (I.pin p hp).1) (by rw [z]; exact hb)) (Nat.lt_irrefl _)
structure Turn (P : Program) (w : World) (K : PySem.W.Frag) (tg : Expr) (J : It) (fp : List Addr) (it : Addr) (tn : Nat → Heap → Prop) : Prop where
  mem : it ∈ fp
  obj : ∀ i h, tn i h → ∀ b ∈ fp, ∃ o, h.get? b = some o ∧ ∀ v, o.data ≠ .cell v
  keep : ∀ i h h', tn i h → (∀ b ∈ fp, ∀ o, h.get? b = some o → h'.get? b = some o) → tn i h'
  item : ∀ (X : Cx), X.prog = P → X.w = w → X.K = K → X.calm = true → ∀ (i : Nat) (pins : List (Addr × Obj)) (s : Shared) (σ : St) (H : Hp) (E : Value → Shared → Prop), Inv X pins σ H s → (∀ b ∈ fp, FpOk X pins H b) → tn i s.heap → J.go i H →
    wpAny (model P w) X.A (pyNext (.ref it)) (fun r s1 => ∃ u, r = some u ∧
      wpAny (model P w) X.A (letOwnedTupleGo tg (.ref it) u) (fun _ s2 => ∃ x H', Inv X pins σ H' s2 ∧ RelV x u ∧ J.yld i H x H' ∧ tn (i + 1) s2.heap ∧ ∀ b ∈ fp, H' b = none) E s1) E s
  done : ∀ (X : Cx), X.prog = P → X.w = w → X.K = K → X.calm = true → ∀ (i : Nat) (pins : List (Addr × Obj)) (s : Shared) (σ : St) (H : Hp) (E : Value → Shared → Prop), Inv X pins σ H s → (∀ b ∈ fp, FpOk X pins H b) → tn i s.heap → J.stop i H →
    wpAny (model P w) X.A (pyNext (.ref it)) (fun r s1 => r = none ∧ Inv X pins σ H s1) E s
  self : ∀ (A : Around) (i : Nat) (s : Shared) (Q : Value → Shared → Prop) (E : Value → Shared → Prop), tn i s.heap → Q (.ref it) s → wpAny (model P w) A (pyIter (.ref it)) Q E s
noncomputable abbrev TI := St → Hp → (It → Hp → Prop) → Prop
noncomputable def PIE (X : Cx) (pins : List (Addr × Obj)) (σ : St) (tg : Expr) (R : It → Hp → Prop) (itv : Value) (s2 : Shared) : Prop :=
  ∃ (it : Addr) (fp : List Addr) (tn : Nat → Heap → Prop) (J : It) (H' : Hp), itv = .ref it ∧ Inv X pins σ H' s2 ∧ Turn X.prog X.w X.K tg J fp it tn ∧ tn 0 s2.heap ∧ (∀ b ∈ fp, FpOk X pins H' b) ∧ R J H'
noncomputable def PI (X : Cx) (tg iter : Expr) (wi : TI) : Prop :=
  ∀ (pins : List (Addr × Obj)) (s : Shared) (σ : St) (H : Hp) (R : It → Hp → Prop), Inv X pins σ H s → wi σ H R →
    wpAny (model X.prog X.w) X.A (eval iter X.env) (fun v s1 => wpAny (model X.prog X.w) X.A (pyIter v) (PIE X pins σ tg R) X.xe s1) X.xe s

theorem go_of {M : Model} {A : Around} {E : Value → Shared → Prop} {s : Shared} {tg : Expr} {it : Addr} {u : Value} {o : Obj} {n : String} {vs : Array Value} {Q : Unit → Shared → Prop} (ho : s.heap.get? it = some o) (hc : o.cls = .type n) (hd : o.data = .fields vs)
    (hn : ["enumerate", "zip", "dict_itemiterator", "dict_reverseitemiterator", "odict_iterator", "itertools.zip_longest", "itertools.pairwise"].contains n = false) (hQ : Q () s) : wpAny M A (letOwnedTupleGo tg (.ref it) u) Q E s := by
  unfold letOwnedTupleGo
  cases tg <;> first
    | exact wpAny_pure hQ
    | (cases u <;> first
        | exact wpAny_pure hQ
        | (refine wpAny_bind (wpAny_load ho ?_)
           rw [hc, hd]
           show wpAny M A (if (["enumerate", "zip", "dict_itemiterator", "dict_reverseitemiterator", "odict_iterator", "itertools.zip_longest", "itertools.pairwise"].contains n && vs[0]? == some (rawInt _)) = true then _ else _) Q E s
           rw [if_neg (by intro h; rw [hn, Bool.false_and] at h; cases h)]
           exact wpAny_pure hQ))

noncomputable def Itl (K : PySem.W.Frag) (a : Addr) : It :=
  ⟨fun i H => ∃ xs x, SqL K H a xs ∧ xs[i]? = some x, fun i H x H' => H' = H ∧ ∀ xs, SqL K H a xs → xs[i]? = some x, fun i H => ∃ xs, SqL K H a xs ∧ xs.length ≤ i⟩
noncomputable def Itr (lo : Int) (n : Nat) : It := ⟨fun i _ => i < n, fun i H x H' => H' = H ∧ x = .int (lo + i), fun i _ => n ≤ i⟩
theorem turn_list {P : Program} {w : World} {K : PySem.W.Frag} {tg : Expr} (a it : Addr) : Turn P w K tg (Itl K a) [it] it (fun i h => h.IsListIter it a i) where
  mem := by simp
  obj := fun i h st b hb => by
    have e : b = it := by simpa using hb
    subst e
    obtain ⟨o, e, c, d⟩ := st
    exact ⟨o, e, fun v z => by rw [d] at z; cases z⟩
  keep := fun i h h' st k => st.at fun o e => k it (by simp) o e
  item := by
    intro X hP hw hK hc i pins s σ H E I hf st hg
    subst hP hw hK
    obtain ⟨xs, x, hq, hx⟩ := hg
    obtain ⟨its, rv, p, hz⟩ := I.list hq
    obtain ⟨u, hu, ru⟩ := rv.get hx
    obtain ⟨f0, f1, f2, f3, f4, f5⟩ := hf it (by simp)
    refine wpAny_pyNext_list_item st p.isList (x := u) (by simpa using hu) fun h' st' sb => ?_
    have I1 : Inv X pins σ H { s with heap := h' } := I.turned (t' := s.toks) (fun b o hb e => (sb.2 b hb).trans e) f0 f1 f3 f4 f5
    obtain ⟨o, e, c, d⟩ := id st'
    exact ⟨u, rfl, go_of (s := { s with heap := h' }) e c d (by decide) ⟨x, H, I1, ru, ⟨rfl, fun ys hy => by rw [I.list_inj hy hq]; exact hx⟩, st', fun b hb => (hf b hb).1⟩⟩
  done := by
    intro X hP hw hK hc i pins s σ H E I hf st hg
    subst hP hw hK
    obtain ⟨xs, hq, hx⟩ := hg
    obtain ⟨its, rv, p, hz⟩ := I.list hq
    obtain ⟨f0, f1, f2, f3, f4, f5⟩ := hf it (by simp)
    have hl := rv.length
    exact wpAny_pyNext_list_end (I.ok.hd hc) st p.isList (by simp; lia) fun h' eb => ⟨rfl, I.turned (t' := s.toks) (fun b o hb e => eb b o hb e) f0 f1 f3 f4 f5⟩
  self := fun _ _ _ _ _ st h => wpAny_pyIter_listiter st h
theorem turn_range {P : Program} {w : World} {K : PySem.W.Frag} {tg : Expr} (it : Addr) (lo : Int) (n : Nat) : Turn P w K tg (Itr lo n) [it] it (fun i h => IsRangeIter h it (lo + (i : Nat) * 1) ((n : Int) - (i : Nat)) 1) where
  mem := by simp
  obj := fun i h st b hb => by
    have e : b = it := by simpa using hb
    subst e
    exact ⟨_, st, fun v z => by
      have z' : Data.fields _ = Data.cell v := z
      cases z'⟩
  keep := fun i h h' st k => k it (by simp) _ st
  item := by
    intro X hP hw hK hc i pins s σ H E I hf st hg
    subst hP hw hK
    obtain ⟨f0, f1, f2, f3, f4, f5⟩ := hf it (by simp)
    have W := Walks.range (prog := X.prog) (w := X.w) (I.ok.hd hc) it lo 1 n
    refine W.item i s _ _ hg st fun v h' tk hv st' kk => ?_
    obtain ⟨t, rfl⟩ := hv
    have I1 : Inv X pins σ H { s with heap := h', toks := tk } := I.turned (fun b o hb e => kk b o (by simpa using hb) e) f0 f1 f3 f4 f5
    refine ⟨_, rfl, go_of (s := { s with heap := h', toks := tk }) (n := "range_iterator") st' rfl rfl (by decide) ⟨.int (lo + i), H, I1, ⟨t, ?_⟩, ⟨rfl, rfl⟩, st', fun b hb => (hf b hb).1⟩⟩
    rw [Int.mul_one]
  done := by
    intro X hP hw hK hc i pins s σ H E I hf st hg
    subst hP hw hK
    obtain ⟨f0, f1, f2, f3, f4, f5⟩ := hf it (by simp)
    exact wpAny_pyNext_range_end (I.ok.hd hc) st (by have : n ≤ i := hg; lia) fun h' eb => ⟨rfl, I.turned (t' := s.toks) (fun b o hb e => eb b o hb e) f0 f1 f3 f4 f5⟩
  self := fun _ _ _ _ _ st h => wpAny_pyIter_rangeiter st h
end L2

namespace L2
open PySem PySem.Spec PyProof.Rows
section
variable {X : Cx} {tg : Expr}
noncomputable def iList (K : PySem.W.Frag) (tl : TE) : TI := fun σ H R => tl σ H fun x H1 => ∃ a, x = .ref a ∧ (∃ xs, SqL K H1 a xs) ∧ R (Itl K a) H1
theorem pi_list {l : Expr} {tl : TE} (hl : PE X l tl) : PI X tg l (iList X.K tl) := by
  intro pins s σ H R I h
  refine thn (hl pins s σ H _ I h) fun v s1 z_ => ?_
  obtain ⟨x, H1, I1, r1, q1⟩ := z_
  obtain ⟨a, e, ⟨xs, hq⟩, q⟩ := q1
  subst e
  cases r1
  obtain ⟨its, rv, p, hz⟩ := I1.list hq
  refine wpAny_pyIter_list p.isList ?_
  refine ⟨s1.heap.objs.size, [s1.heap.objs.size], _, _, H1, rfl, I1.kept (t' := s1.toks) fun b o e => Heap.get?_push_of_some _ e, turn_list a _, ⟨_, Heap.get?_push_size _ rfl, rfl, rfl⟩, fun b hb => ?_, q⟩
  have e : b = s1.heap.objs.size := by simpa using hb
  subst e
  exact I1.fpOk (Nat.le_refl _) (I1.hok.fresh (Nat.le_refl _))
theorem range_it {pins : List (Addr × Obj)} {σ : St} {H : Hp} {s : Shared} {R : It → Hp → Prop} {E : Value → Shared → Prop} {lo hi : Int} {t u v : Tok} {tk : Nat} (I : Inv X pins σ H s) (h1 : -(2 ^ 62) ≤ lo) (h2 : lo < 2 ^ 62) (h3 : -(2 ^ 62) ≤ hi) (h4 : hi < 2 ^ 62)
    (q : R (Itr lo (hi - lo).toNat) H) : wpAny (model X.prog X.w) X.A (pyIter (.ref s.heap.objs.size)) (PIE X pins σ tg R) E { s with heap := s.heap.push { cls := .type "range", data := .fields #[.int lo t, .int hi u, .int 1 v] }, toks := tk } := by
  refine wpAny_pyIter_range (IsRange.new ..) (small_one h1 h2 h3 h4) ?_
  have I1 : Inv X pins σ H { s with heap := s.heap.push { cls := .type "range", data := .fields #[.int lo t, .int hi u, .int 1 v] }, toks := tk } := I.kept fun b o e => Heap.get?_push_of_some _ e
  refine ⟨(s.heap.push { cls := .type "range", data := .fields #[.int lo t, .int hi u, .int 1 v] }).objs.size, [(s.heap.push { cls := .type "range", data := .fields #[.int lo t, .int hi u, .int 1 v] }).objs.size], _, _, H, rfl,
    I1.kept (t' := tk) fun b o e => Heap.get?_push_of_some _ e, turn_range _ lo (hi - lo).toNat, ?_, fun b hb => ?_, q⟩
  · have e1 : lo + ((0 : Nat) : Int) * 1 = lo := by simp
    have e2 : (((hi - lo).toNat : Nat) : Int) - ((0 : Nat) : Int) = Builtin.Range.rangeSize lo hi 1 := by rw [rangeSize_one]; split <;> lia
    show IsRangeIter _ _ (lo + ((0 : Nat) : Int) * 1) ((((hi - lo).toNat : Nat) : Int) - ((0 : Nat) : Int)) 1
    rw [e1, e2]
    exact Heap.get?_push_size _ rfl
  · have e : b = (s.heap.push { cls := .type "range", data := .fields #[.int lo t, .int hi u, .int 1 v] }).objs.size := by simpa using hb
    subst e
    exact I1.fpOk (Nat.le_refl _) (I1.hok.fresh (Nat.le_refl _))
inductive Rng1P (vs : List V) (H1 : Hp) (R : It → Hp → Prop) : Prop
  | mk (j : Int) (h0 : vs = [.int j]) (h1 : -(2 ^ 62) ≤ j) (h2 : j < 2 ^ 62) (q : R (Itr 0 j.toNat) H1)
noncomputable def iRng1 (ta : TA) : TI := fun σ H R => ta σ H fun vs H1 => Rng1P vs H1 R
theorem pi_range1 {a : Expr} {ta : TA} {p pos : Pos} (hg : Gl X "range") (hm : X.mg "range" = none) (ha : PA X [a] ta) (hs : starEach [a] X.env = [(false, eval a X.env)] := by rfl) : PI X tg (.Call (.Name "range" p) [a] [] pos) (iRng1 ta) := by
  intro pins s σ H R I h
  refine Call_ (ld_blt I hg hm boot_range (PyProof.Rows.callWith_type1 (thn (ha pos pins s σ H _ I h) fun us s1 ⟨vs, H1, I1, r1, q1⟩ => ?_) hs rfl))
  obtain ⟨j, e, q1, q2, q⟩ := q1
  subst e
  cases r1 with
  | cons r rr =>
    cases rr
    obtain ⟨t, rfl⟩ := r
    exact call_range_1 (range_it I1 (by lia) (by lia) q1 q2 (by simpa using q))

noncomputable def tFor (wi : TI) (g : TG) (tb : TS) : TS := fun D σ H => wi σ H fun J H1 => ∃ W : Nat → Nat → St → Hp → Prop, (∃ m, W 0 m σ H1) ∧ ∀ i m σ H, W i m σ H →
  (J.stop i H ∧ D.nx σ H) ∨ (J.go i H ∧ ∃ N : St → Hp → Prop, (∀ σ' H', N σ' H' → ∃ m', m' < m ∧ W (i + 1) m' σ' H') ∧ ∀ x H', J.yld i H x H' → g x σ H' fun σ2 H2 => tb (D.lp N) σ2 H2)
noncomputable def pinsAt (fp : List Addr) (h : Heap) : List (Addr × Obj) := fp.filterMap fun b => (h.get? b).map fun o => (b, o)
theorem mem_pinsAt {fp : List Addr} {h : Heap} {b : Addr} {o : Obj} (hb : b ∈ fp) (e : h.get? b = some o) : (b, o) ∈ pinsAt fp h := List.mem_filterMap.mpr ⟨b, hb, by rw [e]; rfl⟩
theorem of_pinsAt {fp : List Addr} {h : Heap} {p : Addr × Obj} (hp : p ∈ pinsAt fp h) : p.1 ∈ fp ∧ h.get? p.1 = some p.2 := by
  obtain ⟨b, hb, e⟩ := List.mem_filterMap.mp hp
  cases q : h.get? b with
  | none => rw [q] at e; cases e
  | some o =>
    rw [q] at e
    have e' : (b, o) = p := Option.some.inj e
    subst e'
    exact ⟨hb, q⟩
theorem Inv.pinned {pins : List (Addr × Obj)} {σ : St} {H : Hp} {s : Shared} {fp : List Addr} (I : Inv X pins σ H s) (hf : ∀ b ∈ fp, FpOk X pins H b) (ho : ∀ b ∈ fp, ∃ o, s.heap.get? b = some o ∧ ∀ v, o.data ≠ .cell v) : Inv X (pins ++ pinsAt fp s.heap) σ H s :=
  I.pins_of fun p hp => (List.mem_append.mp hp).elim (fun z => I.pin p (List.mem_append_right _ z)) fun z => by
    obtain ⟨hb, e⟩ := of_pinsAt z
    obtain ⟨f0, f1, f2, _⟩ := hf p.1 hb
    obtain ⟨o, e', d⟩ := ho p.1 hb
    rw [e] at e'; cases e'
    exact ⟨e, f0, f1, f2, d⟩
theorem Inv.unpinned {pins pl : List (Addr × Obj)} {σ : St} {H : Hp} {s : Shared} (I : Inv X (pins ++ pl) σ H s) : Inv X pins σ H s := I.pins_of fun p hp => I.pin p (List.mem_append_right _ (List.mem_append_left _ hp))
theorem ps_for {iter : Expr} {body : List Stmt} {wi : TI} {g : TG} {tb : TS} {pos : Pos} (hp : PassesOwn (model X.prog X.w) X.A X.env X.xe) (hc : X.calm = true) (hi : PI X tg iter wi) (hg : PG X tg g) (hb : PSs X body tb)
    (hs : ∀ x, foldedSetIterable iter X.env x = pure x := by intro _; rfl) : PS X (.For tg iter body [] pos) (tFor wi g tb) := by
  intro pins s σ H D I h
  refine wpAny_For (thn (hi pins s σ H _ I h) fun v s1 h1 => thn h1 fun itv s2 h2 => ?_) hs
  obtain ⟨it, fp, tn, J, H2, e, I2, T, st2, f2, W, ⟨m0, w0⟩, turn⟩ := h2
  subst e
  -- what stays true of the iterator's objects through the loop
  have stat : ∀ {H' : Hp}, (∀ b ∈ fp, H' b = none) → ∀ b ∈ fp, FpOk X pins H' b := fun hn b hb => ⟨hn b hb, (f2 b hb).2⟩
  refine codeAny_forLoop_any (fun n s' => ∃ i σ' H', Inv X pins σ' H' s' ∧ tn i s'.heap ∧ (∀ b ∈ fp, H' b = none) ∧ W i n σ' H') ?_ m0 ⟨0, σ, H2, I2, st2, fun b hb => (f2 b hb).1, w0⟩
  rintro n s3 ⟨i, σ3, H3, I3, st3, fr3, w3⟩
  rcases turn i n σ3 H3 w3 with ⟨stop, qn⟩ | ⟨go, N, hN, step⟩
  · refine wpAny_passesOwn hp (thn (T.done X rfl rfl rfl hc i pins s3 σ3 H3 X.xe I3 (stat fr3) st3 stop) fun r s4 z_ => ?_)
    obtain ⟨hr, I4⟩ := z_
    subst hr
    exact wpAny_execs_nil ⟨σ3, H3, I4, qn⟩
  · refine wpAny_passesOwn hp (thn (T.item X rfl rfl rfl hc i pins s3 σ3 H3 X.xe I3 (stat fr3) st3 go) fun r s4 z_ => ?_)
    obtain ⟨u, hr, h4⟩ := z_
    subst hr
    refine wpAny_passesOwn hp (thn h4 fun _ s5 z_ => ?_)
    obtain ⟨x, H5, I5, r5, y5, st5, fr5⟩ := z_
    have I5' := I5.pinned (stat fr5) (T.obj _ _ st5)
    refine wpAny_passesOwn hp (thn (hg _ s5 σ3 H5 x u _ I5' r5 (step x H5 y5)) fun _ s6 z_ => ?_)
    obtain ⟨σ6, H6, I6, q6⟩ := z_
    refine wpAny_passesOwn hp (thn (hb _ s6 σ6 H6 _ I6 q6) fun f s7 q7 => ?_)
    have again : ∀ {σ7 : St} {H7 : Hp}, Inv X (pins ++ pinsAt fp s5.heap) σ7 H7 s7 → N σ7 H7 → ∃ m, m < n ∧ ∃ i σ' H', Inv X pins σ' H' s7 ∧ tn i s7.heap ∧ (∀ b ∈ fp, H' b = none) ∧ W i m σ' H' := fun {σ7 H7} I7 n7 => by
      obtain ⟨m', hm, w7⟩ := hN σ7 H7 n7
      refine ⟨m', hm, i + 1, σ7, H7, I7.unpinned, T.keep _ _ _ st5 fun b hb o e => (I7.pin (b, o) (List.mem_append_right _ (List.mem_append_right _ (mem_pinsAt hb e)))).1, fun b hb => ?_, w7⟩
      obtain ⟨o, e, d⟩ := T.obj _ _ st5 b hb
      exact (I7.pin (b, o) (List.mem_append_right _ (List.mem_append_right _ (mem_pinsAt hb e)))).2.1
    cases f with
    | next => obtain ⟨σ7, H7, I7, n7⟩ := q7; exact again I7 n7
    | cont => obtain ⟨σ7, H7, I7, n7⟩ := q7; exact again I7 n7
    | brk => obtain ⟨σ7, H7, I7, q7⟩ := q7; exact ⟨σ7, H7, I7.unpinned, q7⟩
    | ret v => obtain ⟨x7, σ7, H7, I7, r7, q7⟩ := q7; exact ⟨x7, σ7, H7, I7.unpinned, r7, q7⟩
end

theorem for_list {K : PySem.W.Frag} {a : Addr} {xs : List V} {g : TG} {tb : TS} {D : Ends} {σ : St} {H : Hp} (Pv : Nat → St → Hp → Prop) (h0 : Pv 0 σ H) (hl : ∀ i σ H, i ≤ xs.length → Pv i σ H → SqL K H a xs)
    (hs : ∀ i x σ H, xs[i]? = some x → Pv i σ H → g x σ H fun σ2 H2 => tb (D.lp (Pv (i + 1))) σ2 H2) (hd : ∀ σ H, Pv xs.length σ H → D.nx σ H) :
    ∃ W : Nat → Nat → St → Hp → Prop, (∃ m, W 0 m σ H) ∧ ∀ i m σ H, W i m σ H →
      ((Itl K a).stop i H ∧ D.nx σ H) ∨ ((Itl K a).go i H ∧ ∃ N : St → Hp → Prop, (∀ σ' H', N σ' H' → ∃ m', m' < m ∧ W (i + 1) m' σ' H') ∧ ∀ x H', (Itl K a).yld i H x H' → g x σ H' fun σ2 H2 => tb (D.lp N) σ2 H2) := by
  refine ⟨fun i m σ H => m = xs.length - i ∧ i ≤ xs.length ∧ Pv i σ H, ⟨xs.length, by simp, Nat.zero_le _, h0⟩, ?_⟩
  rintro i m σ H ⟨rfl, hi, p⟩
  have q := hl i σ H hi p
  by_cases hlt : i < xs.length
  · refine .inr ⟨⟨xs, xs[i], q, by simp [hlt]⟩, Pv (i + 1), fun σ' H' p' => ⟨xs.length - (i + 1), by lia, rfl, hlt, p'⟩, fun x H' y => ?_⟩
    obtain ⟨e, y⟩ := y
    subst e
    exact hs i x σ _ (y xs q) p
  · have e : i = xs.length := by lia
    subst e
    exact .inl ⟨⟨xs, q, Nat.le_refl _⟩, hd σ H p⟩
theorem for_range {lo : Int} {n : Nat} {g : TG} {tb : TS} {D : Ends} {σ : St} {H : Hp} (Pv : Nat → St → Hp → Prop) (h0 : Pv 0 σ H)
    (hs : ∀ i σ H, i < n → Pv i σ H → g (.int (lo + i)) σ H fun σ2 H2 => tb (D.lp (Pv (i + 1))) σ2 H2) (hd : ∀ σ H, Pv n σ H → D.nx σ H) :
    ∃ W : Nat → Nat → St → Hp → Prop, (∃ m, W 0 m σ H) ∧ ∀ i m σ H, W i m σ H →
      ((Itr lo n).stop i H ∧ D.nx σ H) ∨ ((Itr lo n).go i H ∧ ∃ N : St → Hp → Prop, (∀ σ' H', N σ' H' → ∃ m', m' < m ∧ W (i + 1) m' σ' H') ∧ ∀ x H', (Itr lo n).yld i H x H' → g x σ H' fun σ2 H2 => tb (D.lp N) σ2 H2) := by
  refine ⟨fun i m σ H => m = n - i ∧ i ≤ n ∧ Pv i σ H, ⟨n, by simp, Nat.zero_le _, h0⟩, ?_⟩
  rintro i m σ H ⟨rfl, hi, p⟩
  by_cases hlt : i < n
  · refine .inr ⟨hlt, Pv (i + 1), fun σ' H' p' => ⟨n - (i + 1), by lia, rfl, hlt, p'⟩, fun x H' y => ?_⟩
    obtain ⟨e, y⟩ := y
    subst e y
    exact hs i σ _ hlt p
  · have e : i = n := by lia
    subst e
    exact .inl ⟨Nat.le_refl _, hd σ H p⟩
end L2

namespace L2
open PySem PySem.Spec PyProof.Rows

noncomputable abbrev R2 := V → V → Hp → VK → Prop
noncomputable def OpR (X : Cx) (f : Value → Value → Sem Value) (r : R2) : Prop :=
  ∀ (pins : List (Addr × Obj)) (s : Shared) (σ : St) (H : Hp) (x y : V) (v u : Value) (Q : VK), Inv X pins σ H s → RelV x v → RelV y u → r x y H Q →
    wpAny (model X.prog X.w) X.A (f v u) (EP X pins σ Q) X.xe s
noncomputable def UnR (X : Cx) (f : Value → Sem Value) (r : V → Hp → VK → Prop) : Prop :=
  ∀ (pins : List (Addr × Obj)) (s : Shared) (σ : St) (H : Hp) (x : V) (v : Value) (Q : VK), Inv X pins σ H s → RelV x v → r x H Q →
    wpAny (model X.prog X.w) X.A (f v) (EP X pins σ Q) X.xe s
noncomputable def CallR (X : Cx) (f : Value) (r : List V → Hp → VK → Prop) : Prop :=
  ∀ (pins : List (Addr × Obj)) (s : Shared) (σ : St) (H : Hp) (xs : List V) (us : List Value) (Q : VK), Inv X pins σ H s → Vals xs us → r xs H Q →
    wpAny (model X.prog X.w) X.A (call f us) (EP X pins σ Q) X.xe s

noncomputable def tOp (r : R2) (ta tb : TE) : TE := fun σ H Q => ta σ H fun x H1 => tb σ H1 fun y H2 => r x y H2 Q
noncomputable def tUn (r : V → Hp → VK → Prop) (ta : TE) : TE := fun σ H Q => ta σ H fun x H1 => r x H1 Q
inductive rIP (C : Int → Int → Prop) (g : Int → Int → V) (x : V) (y : V) (H : Hp) (Q : VK) : Prop
  | mk (i : _) (j : _) (h_0 : x = .int i) (h_1 : y = .int j) (h_2 : C i j) (h_3 : Q (g i j) H)
noncomputable def rI (C : Int → Int → Prop) (g : Int → Int → V) : R2 := fun x y H Q => rIP C g x y H Q
inductive rI0P (g : Int → Int → V) (x : V) (y : V) (H : Hp) (Q : VK) : Prop
  | mk (i : _) (j : _) (h_0 : x = .int i) (h_1 : y = .int j) (h_2 : Q (g i j) H)
noncomputable def rI0 (g : Int → Int → V) : R2 := fun x y H Q => rI0P g x y H Q
inductive rUP (g : Int → V) (x : V) (H : Hp) (Q : VK) : Prop
  | mk (i : _) (h_0 : x = .int i) (h_1 : Q (g i) H)
noncomputable def rU (g : Int → V) : V → Hp → VK → Prop := fun x H Q => rUP g x H Q
section
variable {X : Cx} {a b c : Expr} {ta tb tc : TE} {pos : Pos}

theorem binT (ha : PE X a ta) (hb : PE X b tb) {pins : List (Addr × Obj)} {s : Shared} {σ : St} {H : Hp} {R : V → V → Hp → Prop} (I : Inv X pins σ H s)
    (h : ta σ H fun x H1 => tb σ H1 fun y H2 => R x y H2) {Q : Value → Shared → Prop} {f : Value → Value → Sem Value}
    (hf : ∀ v u s2 x y H2, Inv X pins σ H2 s2 → RelV x v → RelV y u → R x y H2 → wpAny (model X.prog X.w) X.A (f v u) Q X.xe s2) :
    wpAny (model X.prog X.w) X.A (eval a X.env) (fun v s₁ => wpAny (model X.prog X.w) X.A (eval b X.env) (fun u s₂ => wpAny (model X.prog X.w) X.A (f v u) Q X.xe s₂) X.xe s₁) X.xe s := by
  refine thn (ha pins s σ H _ I h) fun v s1 z_ => ?_
  obtain ⟨x, H1, I1, r1, q1⟩ := z_
  refine thn (hb pins s1 σ H1 _ I1 q1) fun u s2 z_ => ?_
  obtain ⟨y, H2, I2, r2, q2⟩ := z_
  exact hf v u s2 x y H2 I2 r1 r2 q2

theorem pe_op {op : Operator} {r : R2} (ho : OpR X (binaryOp op) r) (ha : PE X a ta) (hb : PE X b tb) : PE X (.BinOp a op b pos) (tOp r ta tb) := by
  intro pins s σ H Q I h
  exact wpAny_BinOp (binT ha hb I h fun v u s2 x y H2 I2 rx ry q => ho pins s2 σ H2 x y v u Q I2 rx ry q)
theorem pe_un {op : UnaryOp} {r : V → Hp → VK → Prop} (ho : UnR X (unaryOp op) r) (ha : PE X a ta) : PE X (.UnaryOp op a pos) (tUn r ta) := by
  intro pins s σ H Q I h
  exact UnaryOp_ (thn (ha pins s σ H _ I h) fun v s1 ⟨x, H1, I1, r1, q1⟩ => ho pins s1 σ H1 x v Q I1 r1 q1)

theorem opI {f : Value → Value → Sem Value} {C : Int → Int → Prop} {g : Int → Int → Int}
    (rule : ∀ (i j : Int) (t u : Tok) (s : Shared) (Q : Value → Shared → Prop) (E : Value → Shared → Prop), C i j → Q (.int (g i j) s.toks) { s with toks := s.toks + 1 } → wpAny (model X.prog X.w) X.A (f (.int i t) (.int j u)) Q E s) :
    OpR X f (rI C fun i j => .int (g i j)) := by
  intro pins s σ H x y v u Q I rx ry h
  obtain ⟨i, j, rfl, rfl, hc, q⟩ := h
  obtain ⟨t, rfl⟩ := rx
  obtain ⟨t', rfl⟩ := ry
  exact rule i j t t' s _ _ hc ⟨.int (g i j), H, I.tok _, ⟨_, rfl⟩, q⟩
theorem opI0 {f : Value → Value → Sem Value} {g : Int → Int → Int}
    (rule : ∀ (i j : Int) (t u : Tok) (s : Shared) (Q : Value → Shared → Prop) (E : Value → Shared → Prop), Q (.int (g i j) s.toks) { s with toks := s.toks + 1 } → wpAny (model X.prog X.w) X.A (f (.int i t) (.int j u)) Q E s) :
    OpR X f (rI0 fun i j => .int (g i j)) := by
  intro pins s σ H x y v u Q I rx ry h
  obtain ⟨i, j, rfl, rfl, q⟩ := h
  obtain ⟨t, rfl⟩ := rx
  obtain ⟨t', rfl⟩ := ry
  exact rule i j t t' s _ _ ⟨.int (g i j), H, I.tok _, ⟨_, rfl⟩, q⟩
theorem opB0 {f : Value → Value → Sem Value} {g : Int → Int → Bool}
    (rule : ∀ (i j : Int) (t u : Tok) (s : Shared) (Q : Value → Shared → Prop) (E : Value → Shared → Prop), Q (.bool (g i j)) s → wpAny (model X.prog X.w) X.A (f (.int i t) (.int j u)) Q E s) :
    OpR X f (rI0 fun i j => .bl (g i j)) := by
  intro pins s σ H x y v u Q I rx ry h
  obtain ⟨i, j, rfl, rfl, q⟩ := h
  obtain ⟨t, rfl⟩ := rx
  obtain ⟨t', rfl⟩ := ry
  exact rule i j t t' s _ _ ⟨.bl (g i j), H, I, rfl, q⟩

noncomputable def CDiv (i j : Int) : Prop := 0 < j ∧ j < 1073741824
noncomputable def CMul (i j : Int) : Prop := (-(2 ^ 64) < i ∧ i < 2 ^ 64) ∨ (-(2 ^ 64) < j ∧ j < 2 ^ 64)
theorem CMul.ok {i j : Int} (h : CMul i j) : IntMulOk i j := by
  rcases h with ⟨h1, h2⟩ | ⟨h1, h2⟩
  · exact .of_left (intBits_le_64 h1 h2)
  · exact .of_right (intBits_le_64 h1 h2)

theorem op_add : OpR X (binaryOp .Add) (rI0 fun i j => .int (i + j)) := opI0 fun _ _ _ _ _ _ _ q => add_int q
theorem op_sub : OpR X (binaryOp .Sub) (rI0 fun i j => .int (i - j)) := opI0 fun _ _ _ _ _ _ _ q => sub_int q
theorem op_mul : OpR X (binaryOp .Mult) (rI CMul fun i j => .int (i * j)) := opI fun _ _ _ _ _ _ _ hc q => mul_int q hc.ok
theorem op_fdiv : OpR X (binaryOp .FloorDiv) (rI CDiv fun i j => .int (i / j)) := opI fun i j _ _ _ _ _ hc q => by
  have h1 : (0 : Int) < j := hc.1
  have h2 : j < 1073741824 := hc.2
  exact floordiv_int (by lia) (by rw [Int.fdiv_eq_ediv_of_nonneg i (by lia)]; exact q) (.inl (PyProof.noPylong_small (by lia)))
theorem op_mod : OpR X (binaryOp .Mod) (rI (fun _ j => 0 < j) fun i j => .int (i % j)) := opI fun i j _ _ _ _ _ hc q => by
  have h1 : (0 : Int) < j := hc
  exact mod_int' (by lia) (by rw [Int.fmod_eq_emod_of_nonneg i (by lia)]; exact q)


theorem unI {f : Value → Sem Value} {g : Int → Int}
    (rule : ∀ (i : Int) (t : Tok) (s : Shared) (Q : Value → Shared → Prop) (E : Value → Shared → Prop), Q (.int (g i) s.toks) { s with toks := s.toks + 1 } → wpAny (model X.prog X.w) X.A (f (.int i t)) Q E s) :
    UnR X f (rU fun i => .int (g i)) := by
  intro pins s σ H x v Q I rx h
  obtain ⟨i, rfl, q⟩ := h
  obtain ⟨t, rfl⟩ := rx
  exact rule i t s _ _ ⟨.int (g i), H, I.tok _, ⟨_, rfl⟩, q⟩
theorem un_neg : UnR X (unaryOp .USub) (rU fun i => .int (-i)) := unI fun _ _ _ _ _ q => neg_int q

end

noncomputable def scal : V → V → Bool
  | .non, .non => true | .non, .int _ => true | .int _, .non => true | .non, .bl _ => true | .bl _, .non => true | .non, .str _ => true | .str _, .non => true
  | .int _, .int _ => true | .bl _, .bl _ => true | .str _, .str _ => true | .byt _, .byt _ => true
  | .int _, .str _ => true | .str _, .int _ => true | .bl _, .str _ => true | .str _, .bl _ => true
  | _, _ => false
noncomputable def rEq : R2 := fun x y H Q => scal x y = true ∧ Q (.bl (decide (x = y))) H
noncomputable def rNe : R2 := fun x y H Q => scal x y = true ∧ Q (.bl (!decide (x = y))) H

theorem dec_int {i j : Int} : decide (V.int i = V.int j) = (i == j) := by
  rw [Bool.eq_iff_iff]
  simp
theorem dec_bl {i j : Bool} : decide (V.bl i = V.bl j) = (i == j) := by
  rw [Bool.eq_iff_iff]
  simp
theorem dec_str {i j : Str} : decide (V.str i = V.str j) = (i == j) := by
  rw [Bool.eq_iff_iff]
  simp
theorem dec_byt {i j : Array UInt8} : decide (V.byt i = V.byt j) = (i.toList == j.toList) := by
  rw [Bool.eq_iff_iff]
  cases i
  cases j
  simp

section
variable {X : Cx} {a b c : Expr} {ta tb tc : TE} {pos : Pos}
theorem fin_bl {pins : List (Addr × Obj)} {σ : St} {H : Hp} {s : Shared} {Q : VK} {k k' : Bool} (I : Inv X pins σ H s) (q : Q (.bl k) H) (e : k = k') : EP X pins σ Q (.bool k') s := by
  subst e
  exact ⟨.bl k, H, I, rfl, q⟩
theorem op_eq : OpR X (compareOp .Eq) rEq := by
  intro pins s σ H x y v u Q I rx ry h
  obtain ⟨hs, q⟩ := h
  cases x with
  | non =>
    cases rx
    cases y with
    | non => cases ry; exact PySem.EqNone.eq_none_none (fin_bl I q (by simp))
    | bl j => cases ry; exact PySem.EqNone.eq_none_bool (fin_bl I q (by simp))
    | int j => obtain ⟨t', rfl⟩ := ry; exact PySem.EqNone.eq_none_int (fin_bl I q (by simp))
    | str j => obtain ⟨t', rfl⟩ := ry; exact PySem.EqNone.eq_none_str (fin_bl I q (by simp))
    | _ => exact absurd (show false = true from hs) Bool.false_ne_true
  | bl i =>
    cases rx
    cases y with
    | non => cases ry; exact PySem.EqNone.eq_bool_none (fin_bl I q (by simp))
    | bl j => cases ry; exact eq_bool (fin_bl I q dec_bl)
    | str j => obtain ⟨t', rfl⟩ := ry; exact PySem.EqMixed.eq_bool_str (fin_bl I q (by simp))
    | _ => exact absurd (show false = true from hs) Bool.false_ne_true
  | int i =>
    obtain ⟨t, rfl⟩ := rx
    cases y with
    | non => cases ry; exact PySem.EqNone.eq_int_none (fin_bl I q (by simp))
    | int j => obtain ⟨t', rfl⟩ := ry; exact eq_int (fin_bl I q dec_int)
    | str j => obtain ⟨t', rfl⟩ := ry; exact PySem.EqMixed.eq_int_str (fin_bl I q (by simp))
    | _ => exact absurd (show false = true from hs) Bool.false_ne_true
  | str i =>
    obtain ⟨t, rfl⟩ := rx
    cases y with
    | non => cases ry; exact PySem.EqNone.eq_str_none (fin_bl I q (by simp))
    | bl j => cases ry; exact PySem.EqMixed.eq_str_bool (fin_bl I q (by simp))
    | int j => obtain ⟨t', rfl⟩ := ry; exact PySem.EqMixed.eq_str_int (fin_bl I q (by simp))
    | str j => obtain ⟨t', rfl⟩ := ry; exact eq_str (fin_bl I q dec_str)
    | _ => exact absurd (show false = true from hs) Bool.false_ne_true
  | byt i =>
    obtain ⟨t, rfl⟩ := rx
    cases y with
    | byt j => obtain ⟨t', rfl⟩ := ry; exact PySem.W.eq_bytes (fin_bl I q dec_byt)
    | _ => exact absurd (show false = true from hs) Bool.false_ne_true
  | _ => cases y <;> exact absurd (show false = true from hs) Bool.false_ne_true
theorem op_ne : OpR X (compareOp .NotEq) rNe := by
  intro pins s σ H x y v u Q I rx ry h
  obtain ⟨hs, q⟩ := h
  cases x with
  | non =>
    cases rx
    cases y with
    | non => cases ry; exact PySem.EqNone.ne_none_none (fin_bl I q (by simp))
    | bl j => cases ry; exact PySem.EqNone.ne_none_bool (fin_bl I q (by simp))
    | int j => obtain ⟨t', rfl⟩ := ry; exact PySem.EqNone.ne_none_int (fin_bl I q (by simp))
    | str j => obtain ⟨t', rfl⟩ := ry; exact PySem.EqNone.ne_none_str (fin_bl I q (by simp))
    | _ => exact absurd (show false = true from hs) Bool.false_ne_true
  | bl i =>
    cases rx
    cases y with
    | non => cases ry; exact PySem.EqNone.ne_bool_none (fin_bl I q (by simp))
    | bl j => cases ry; exact ne_bool (fin_bl I q (congrArg not dec_bl))
    | str j => obtain ⟨t', rfl⟩ := ry; exact PySem.EqMixed.ne_bool_str (fin_bl I q (by simp))
    | _ => exact absurd (show false = true from hs) Bool.false_ne_true
  | int i =>
    obtain ⟨t, rfl⟩ := rx
    cases y with
    | non => cases ry; exact PySem.EqNone.ne_int_none (fin_bl I q (by simp))
    | int j => obtain ⟨t', rfl⟩ := ry; exact ne_int (fin_bl I q (congrArg not dec_int))
    | str j => obtain ⟨t', rfl⟩ := ry; exact PySem.EqMixed.ne_int_str (fin_bl I q (by simp))
    | _ => exact absurd (show false = true from hs) Bool.false_ne_true
  | str i =>
    obtain ⟨t, rfl⟩ := rx
    cases y with
    | non => cases ry; exact PySem.EqNone.ne_str_none (fin_bl I q (by simp))
    | bl j => cases ry; exact PySem.EqMixed.ne_str_bool (fin_bl I q (by simp))
    | int j => obtain ⟨t', rfl⟩ := ry; exact PySem.EqMixed.ne_str_int (fin_bl I q (by simp))
    | str j => obtain ⟨t', rfl⟩ := ry; exact ne_str (fin_bl I q (congrArg not dec_str))
    | _ => exact absurd (show false = true from hs) Bool.false_ne_true
  | byt i =>
    obtain ⟨t, rfl⟩ := rx
    cases y with
    | byt j => obtain ⟨t', rfl⟩ := ry; exact PySem.W.ne_bytes (fin_bl I q (congrArg not dec_byt))
    | _ => exact absurd (show false = true from hs) Bool.false_ne_true
  | _ => cases y <;> exact absurd (show false = true from hs) Bool.false_ne_true

theorem op_lt : OpR X (compareOp .Lt) (rI0 fun i j => .bl (decide (i < j))) := opB0 fun _ _ _ _ _ _ _ q => lt_int q
theorem op_gt : OpR X (compareOp .Gt) (rI0 fun i j => .bl (decide (j < i))) := opB0 fun _ _ _ _ _ _ _ q => gt_int q
theorem op_in_str : OpR X (compareOp .In) (fun x y H Q => ∃ i j, x = .str i ∧ y = .str j ∧ Q (.bl (!(Builtin.Str.occurrences j i 0 j.length 1).isEmpty)) H) := by
  intro pins s σ H x y v u Q I rx ry h
  obtain ⟨i, j, rfl, rfl, q⟩ := h
  obtain ⟨t, rfl⟩ := rx
  obtain ⟨t', rfl⟩ := ry
  exact in_str (fin_bl I q rfl)

theorem op_isN : OpR X (compareOp .Is) (fun x y H Q => y = .non ∧ Q (.bl (decide (x = .non))) H) := by
  intro pins s σ H x y v u Q I rx ry h
  obtain ⟨rfl, q⟩ := h
  cases ry
  refine is_none_gen (fin_bl I q ?_)
  cases x <;> first
    | (cases rx; rfl)
    | (obtain ⟨t, rfl⟩ := rx; rfl)
theorem op_notN : OpR X (compareOp .IsNot) (fun x y H Q => y = .non ∧ Q (.bl (!decide (x = .non))) H) := by
  intro pins s σ H x y v u Q I rx ry h
  obtain ⟨rfl, q⟩ := h
  cases ry
  refine isnot_none_gen (fin_bl I q ?_)
  cases x <;> first
    | (cases rx; rfl)
    | (obtain ⟨t, rfl⟩ := rx; rfl)



theorem nomark (b : Expr) {op : CmpOp} (h : op ≠ .In := by decide) (h2 : op ≠ .NotIn := by decide) : behindInMarks op b = false := by
  have e1 : (op == CmpOp.In) = false := by cases op <;> first | rfl | exact absurd rfl h
  have e2 : (op == CmpOp.NotIn) = false := by cases op <;> first | rfl | exact absurd rfl h2
  cases b <;> simp [behindInMarks, e1, e2]
theorem pe_cmpR {op : CmpOp} {r : R2} (ho : OpR X (compareOp op) r) (ha : PE X a ta) (hb : PE X b tb) (hm : behindInMarks op b = false) : PE X (.Compare a [op] [b] pos) (tOp r ta tb) := by
  intro pins s σ H Q I h
  exact wpAny_Compare1 (binT ha hb I h fun v u s2 x y H2 I2 rx ry q => ho pins s2 σ H2 x y v u Q I2 rx ry q) hm
noncomputable def tTest (t : TE) : TT := fun σ H Q => t σ H fun x H' => BoolP x H' Q
theorem pt_cmpR {op : CmpOp} {r : R2} (ho : OpR X (compareOp op) r) (ha : PE X a ta) (hb : PE X b tb) (hm : behindInMarks op b = false) : PT X (.Compare a [op] [b] pos) (tTest (tOp r ta tb)) := by
  intro pins s σ H Q I h
  refine wpAny_isTrue_Compare1 (thn (ha pins s σ H _ I h) fun v s1 ⟨x, H1, I1, r1, q1⟩ => thn (hb pins s1 σ H1 _ I1 q1) fun u s2 ⟨y, H2, I2, r2, q2⟩ =>
    thn (ho pins s2 σ H2 x y v u _ I2 r1 r2 q2) fun c s3 ⟨z, H3, I3, r3, k, e, q3⟩ => ?_) hm
  subst e
  cases r3
  exact wpAny_truthy_bool ⟨H3, I3, q3⟩

theorem line63 : (sizeLine : Nat) < 2 ^ 63 := by rw [sizeLine_eq]; decide

theorem op_add_str : OpR X (binaryOp .Add) (fun x y H Q => ∃ i j, x = .str i ∧ y = .str j ∧ i.length + j.length ≤ sizeLine ∧ Q (.str (i ++ j)) H) := by
  intro pins s σ H x y v u Q I rx ry h
  obtain ⟨i, j, rfl, rfl, hz, q⟩ := h
  obtain ⟨t, rfl⟩ := rx
  obtain ⟨t', rfl⟩ := ry
  exact add_str (fun t' tk => ⟨.str (i ++ j), H, I.tok _, ⟨_, rfl⟩, q⟩) hz


theorem vals1 {x : V} {us : List Value} (r : Vals [x] us) : ∃ u, us = [u] ∧ RelV x u := by
  cases r with
  | cons r1 r2 => cases r2; exact ⟨_, rfl, r1⟩
theorem vals2 {x y : V} {us : List Value} (r : Vals [x, y] us) : ∃ u w', us = [u, w'] ∧ RelV x u ∧ RelV y w' := by
  cases r with
  | cons r1 r2 =>
    cases r2 with
    | cons r3 r4 => cases r4; exact ⟨_, _, rfl, r1, r3⟩
theorem call_str_int : CallR X (.type "str") (fun xs H Q => ∃ i, xs = [.int i] ∧ i.natAbs.log2 < 1920 ∧ Q (.str (toString i)) H) := by
  intro pins s σ H xs us Q I r h
  obtain ⟨i, rfl, hz, q⟩ := h
  obtain ⟨u, rfl, t, rfl⟩ := vals1 r
  exact PySem.P.str_of_int hz ⟨.str _, H, I.tok _, ⟨_, rfl⟩, q⟩
end
end L2

namespace L2
open PySem PySem.Spec PyProof.Rows

structure ObjM (h : Heap) (x dx C : Addr) (mA : Str → Option Value) : Prop where
  obj : h.get? x = some (PySem.W.instObj C dx)
  ns : h.Ns1 dx mA
  ne : dx ≠ x

theorem lookIn_ns {h : Heap} {dx : Addr} {mA : Str → Option Value} (n : h.Ns1 dx mA) : ∃ od, h.get? dx = some od ∧ ∀ name, PySem.W.lookIn name od = some (mA name) := by
  obtain ⟨o, es, ep, ho, hd, hk, _, hm⟩ := n
  refine ⟨o, ho, fun name => ?_⟩
  have e := hm name
  unfold nsFind findBy at e
  rw [← Array.find?_toList] at e
  unfold PySem.W.lookIn
  rw [hd]
  dsimp only
  split
  · rename_i y q
    rw [q] at e
    exact congrArg some e
  · rename_i q
    rw [q] at e
    have a : es.toList.any (·.refKey) = false := by
      rw [List.any_eq_false]
      intro y hy
      obtain ⟨z, t, hkey⟩ := hk y (Array.mem_toList_iff.mp hy)
      simp [DictEntry.refKey, hkey]
    have a' : ¬ es.toList.any (·.refKey) = true := by rw [a]; exact Bool.false_ne_true
    rw [if_neg a']
    exact congrArg some e

theorem ObjM.look {h : Heap} {x dx C : Addr} {mA : Str → Option Value} (I : ObjM h x dx C mA) : ∃ od, PySem.W.InstAt h x (PySem.W.instObj C dx) C (some od) ∧ ∀ name, PySem.W.lookIn name od = some (mA name) :=
  let ⟨od, ho, hl⟩ := lookIn_ns I.ns
  ⟨od, ⟨I.obj, rfl, rfl, ho⟩, hl⟩

section
variable {prog : Program} {w : World} {A : Around} {E : Value → Shared → Prop} {s : Shared} {K : PySem.W.Frag} {x dx C f : Addr} {mA : Str → Option Value} {name : Str} {v : Value}

theorem get_map {expr : Bool} {Q : Value → Shared → Prop} (X : K.In s.heap) (I : ObjM s.heap x dx C mA) (hg : PySem.W.plainGet K C name = true) (hh : PySem.W.hasDictIn K C = true)
    (ha : PySem.W.findIn K (.ref C) name = some none) (hv : mA name = some v) (hv' : PySem.W.handedIn v = true) (h : Q v { s with toks := s.toks + 1 }) :
    wpAny (model prog w) A (getAttr (.ref x) name expr) Q E s := by
  obtain ⟨od, J, hl⟩ := I.look
  exact PySem.W.get_value X J (PySem.W.plainGet_of hg).1 (PySem.W.findObj_own hh ha rfl (by rw [hl, hv])) hv' h



theorem set_map {ns : List Str} {Q : Unit → Shared → Prop} (X : K.In s.heap) (I : ObjM s.heap x dx C mA)
    (hs : PySem.W.findIn K (.ref C) "__setattr__" = some (some (.builtin "object.__setattr__"))) (hp : PySem.W.plainOver K C = true) (ht : PySem.W.takerIn K C name = some none) (hh : PySem.W.hasDictIn K C = true)
    (hw : PySem.Within mA ns) (hsz : ns.length ≤ sizeLine)
    (h : ∀ h', ObjM h' x dx C (fun y => if y = name then some v else mA y) → Heap.SameBut dx s.heap h' → Q () { s with heap := h', toks := s.toks + 2 }) :
    wpAny (model prog w) A (setAttr (.ref x) name v) Q E s := by
  obtain ⟨od, J, hl⟩ := I.look
  refine PySem.W.set_plain X J hs (PySem.W.osa_open (s := { s with toks := s.toks + 1 }) (r := none) X J hp ht fun b => ?_)
  obtain ⟨cd, hc, hd'⟩ := PySem.W.any_some hh
  have hx : s.heap.get? x = some ⟨.ref C, some dx, .plain, #[]⟩ := I.obj
  refine wpAny_bind (wpAny_pure (wpAny_bind (wpAny_bind (wpAny_loadPart hx (wpAny_bind (PySem.W.Looks.here (s := { s with toks := s.toks + 1 }) (PySem.W.looks_clsIn X hc) ?_))))))
  rw [hd']
  refine wpAny_pure (a := some dx) (wpAny_bind (wpAny_pure (wpAny_bind ?_)))
  refine wpAny_nsSet1 (s := { s with toks := s.toks + 1 }) I.ns fun h' hn2 hs2 => ?_
  obtain ⟨oD, esD, epD, hoD, hdD, hcD⟩ := hn2.count (PySem.Within.cons name v hw)
  refine wpAny_bind (wpAny_lookBehind hoD (by rw [hdD]; exact pastItsLine_dict (Nat.le_trans hcD (by rw [List.length_cons]; lia))) ?_)
  exact wpAny_pure (h _ ⟨(hs2.2 _ (Ne.symm I.ne)).trans I.obj, hn2, I.ne⟩ hs2)

theorem make_map {R : Result → Shared → Prop} {vs : List Value} {kw : List (Str × Value)} (X : K.In s.heap) (hm : PySem.W.makesIn K C = true)
    (hi : PySem.W.findIn K (.ref C) "__init__" = some (some (.ref f))) (hf : PySem.W.typeIn K (.ref f) = some (.type "function"))
    (h : codeAny (model prog w) (A.under (.builtin "type.__call__" ⟨.ref C :: vs, kw⟩)) (.call (.ref f) ⟨.ref (s.heap.objs.size + 1) :: vs, kw⟩) (PySem.W.InitBack (s.heap.objs.size + 1) R)
      { s with heap := (s.heap.push PySem.W.emptyDict).push (PySem.W.instObj C s.heap.objs.size) }) :
    codeAny (model prog w) A (.call (.ref C) ⟨vs, kw⟩) R s := by
  obtain ⟨hh, g, d, t, os⟩ := s
  exact PySem.W.make_core (PySem.W.makes_of X hm) (PySem.W.looks_findIn X hi) (fun self => PySem.W.bind_fn X self hf) (.inl rfl) h
end

noncomputable def putF (f : Str) (v : V) : List (Str × V) → List (Str × V)
  | [] => [(f, v)]
  | (g, x) :: r => if g = f then (g, v) :: r else (g, x) :: putF f v r
theorem lookup_putF (f g : Str) (v : V) : ∀ fs : List (Str × V), (putF f v fs).lookup g = if g = f then some v else fs.lookup g
  | [] => by
    show List.lookup g [(f, v)] = _
    by_cases h : g = f
    · have hb : (g == f) = true := beq_iff_eq.mpr h
      simp only [List.lookup, hb, if_pos h]
    · have hb : (g == f) = false := beq_eq_false_iff_ne.mpr h
      simp only [List.lookup, hb, if_neg h]
  | (k, x) :: r => by
    have ih := lookup_putF f g v r
    rw [show putF f v ((k, x) :: r) = (if k = f then (k, v) :: r else (k, x) :: putF f v r) from rfl]
    by_cases hk : k = f
    · rw [if_pos hk]
      by_cases h : g = k
      · have hb : (g == k) = true := beq_iff_eq.mpr h
        simp only [List.lookup, hb, if_pos (h.trans hk)]
      · have hb : (g == k) = false := beq_eq_false_iff_ne.mpr h
        simp only [List.lookup, hb, if_neg (fun e : g = f => h (e.trans hk.symm))]
    · rw [if_neg hk]
      by_cases h : g = k
      · have hb : (g == k) = true := beq_iff_eq.mpr h
        simp only [List.lookup, hb, if_neg (fun e : g = f => hk (h.symm.trans e))]
      · have hb : (g == k) = false := beq_eq_false_iff_ne.mpr h
        simp only [List.lookup, hb]
        exact ih
theorem keys_putF (f : Str) (v : V) : ∀ fs : List (Str × V), f ∈ (putF f v fs).map (·.1) ∧ ∀ g, g ∈ fs.map (·.1) → g ∈ (putF f v fs).map (·.1)
  | [] => ⟨by simp [putF], fun g h => by simp at h⟩
  | (k, x) :: r => by
    obtain ⟨i1, i2⟩ := keys_putF f v r
    rw [show putF f v ((k, x) :: r) = (if k = f then (k, v) :: r else (k, x) :: putF f v r) from rfl]
    by_cases hk : k = f
    · rw [if_pos hk]
      subst hk
      exact ⟨by simp, fun g h => by simpa using h⟩
    · rw [if_neg hk]
      refine ⟨?_, fun g h => ?_⟩
      · rw [List.map_cons]
        exact List.mem_cons_of_mem _ i1
      · rw [List.map_cons] at h ⊢
        rcases List.mem_cons.mp h with e | e
        · exact List.mem_cons.mpr (.inl e)
        · exact List.mem_cons_of_mem _ (i2 g e)
theorem length_putF (f : Str) (v : V) : ∀ fs : List (Str × V), (putF f v fs).length ≤ fs.length + 1
  | [] => by simp [putF]
  | (k, x) :: r => by
    have ih := length_putF f v r
    rw [show putF f v ((k, x) :: r) = (if k = f then (k, v) :: r else (k, x) :: putF f v r) from rfl]
    by_cases hk : k = f
    · rw [if_pos hk, List.length_cons, List.length_cons]; lia
    · rw [if_neg hk, List.length_cons, List.length_cons]; lia

theorem RelO.some_of {v : V} {o : Option Value} (r : RelO (some v) o) : ∃ u, o = some u ∧ RelV v u := by
  cases o with
  | none => exact (show False from r).elim
  | some u => exact ⟨u, rfl, r⟩
theorem handed_of {v : V} {u : Value} (r : RelV v u) : PySem.W.handedIn u = true := by
  cases v with
  | non => cases (show u = Value.none from r); rfl
  | bl b => cases (show u = Value.bool b from r); rfl
  | int i => obtain ⟨t, e⟩ := (show ∃ t, u = Value.int i t from r); cases e; rfl
  | str x => obtain ⟨t, e⟩ := (show ∃ t, u = Value.str x t from r); cases e; rfl
  | byt b => obtain ⟨t, e⟩ := (show ∃ t, u = Value.bytes b t from r); cases e; rfl
  | flt b => obtain ⟨t, e⟩ := (show ∃ t, u = Value.float b t from r); cases e; rfl
  | ref a => cases (show u = Value.ref a from r); rfl
  | ty n => cases (show u = Value.type n from r); rfl

section
variable {P : Program} {w : World} {H H' : Hp} {h h' : Heap} {a C dx : Addr} {fs fs' : List (Str × V)}
theorem ins_get (hok : HOk P w H h) (e : H a = some (.ins C dx fs)) : ∃ mA, ObjM h a dx C mA ∧ (∀ f, RelO (fs.lookup f) (mA f)) ∧ PySem.Within mA (fs.map (·.1)) ∧ fs.length ≤ 1000 ∧ H dx = some (.own a) := by
  obtain ⟨d, z, ne, ob, mA, n, r, q⟩ := (show ObjOk P w H h a (.ins C dx fs) from hok a _ e)
  exact ⟨mA, ⟨ob, n, ne⟩, r, q, z, d⟩
end

structure Cls (K : PySem.W.Frag) (C : Addr) : Prop where
  pg : PySem.W.plainGet K C Str.empty = true
  hd : PySem.W.hasDictIn K C = true
  po : PySem.W.plainOver K C = true
  sa : PySem.W.findIn K (.ref C) "__setattr__" = some (some (.builtin "object.__setattr__"))
theorem Cls.get {K : PySem.W.Frag} {C : Addr} (c : Cls K C) (f : Str) : PySem.W.plainGet K C f = true := c.pg
noncomputable def NoAttr (K : PySem.W.Frag) (C : Addr) (f : Str) : Prop := PySem.W.findIn K (.ref C) f = some none
theorem NoAttr.taker {K : PySem.W.Frag} {C : Addr} {f : Str} (n : NoAttr K C f) : PySem.W.takerIn K C f = some none := by
  unfold PySem.W.takerIn
  rw [show PySem.W.findIn K (.ref C) f = some none from n]
  rfl

section
variable {X : Cx} {pins : List (Addr × Obj)} {σ : St} {H : Hp} {s : Shared} {a C dx : Addr} {fs : List (Str × V)} {f : Str} {v : V} {A : Around} {E : Value → Shared → Prop}

theorem getattr_ok {b : Bool} {Q : Value → Shared → Prop} (I : Inv X pins σ H s) (e : H a = some (.ins C dx fs)) (c : Cls X.K C) (n : NoAttr X.K C f) (l : fs.lookup f = some v)
    (h : ∀ u s', Inv X pins σ H s' → RelV v u → Q u s') : wpAny (model X.prog X.w) A (getAttr (.ref a) f b) Q E s := by
  obtain ⟨mA, O, r, _, _, _⟩ := ins_get I.hok e
  obtain ⟨u, hu, ru⟩ := RelO.some_of (v := v) (o := mA f) (by rw [← l]; exact r f)
  exact get_map I.kIn O (c.get f) c.hd n hu (handed_of ru) (h u _ (I.tok _) ru)



theorem setattr_ok {y : V} {u : Value} {Q : Unit → Shared → Prop} (I : Inv X pins σ H s) (e : H a = some (.ins C dx fs)) (c : Cls X.K C) (n : NoAttr X.K C f) (hl : fs.length < 1000) (ry : RelV y u)
    (h : ∀ s', Inv X pins σ (upd H a (.ins C dx (putF f y fs))) s' → Q () s') : wpAny (model X.prog X.w) A (setAttr (.ref a) f u) Q E s := by
  obtain ⟨mA, O, r, wi, _, ho⟩ := ins_get I.hok e
  have hz : (fs.map (·.1)).length ≤ sizeLine := by rw [List.length_map, sizeLine_eq]; lia
  refine set_map I.kIn O c.sa c.po n.taker c.hd wi hz fun h' O' sb => h _ ?_
  have hd : ∃ o, h'.get? dx = some o := let ⟨o, _, _, e', _⟩ := O'.ns; ⟨o, e'⟩
  refine I.write (x := a) (e := dx) (by rw [e]; exact True.intro) (.inr ho) (fun b q hb z => (sb.2 b hb).trans z) hd ?_
  refine ⟨by rw [upd_ne O.ne]; exact ho, ?_, O.ne, O'.obj, _, O'.ns, fun g => ?_, fun g hg => ?_⟩
  · have := length_putF f y fs; lia
  · show RelO ((putF f y fs).lookup g) (if g = f then some u else mA g)
    rw [lookup_putF]
    by_cases q : g = f
    · rw [if_pos q, if_pos q]; exact ry
    · rw [if_neg q, if_neg q]; exact r g
  · by_cases q : g = f
    · rw [q]; exact (keys_putF f y fs).1
    · refine (keys_putF f y fs).2 g (wi g fun z => hg ?_)
      show (if g = f then some u else mA g) = none
      rw [if_neg q]; exact z

theorem Inv.made (I : Inv X pins σ H s) : Inv X pins σ (upd (upd H s.heap.objs.size (.own (s.heap.objs.size + 1))) (s.heap.objs.size + 1) (.ins C s.heap.objs.size []))
    { s with heap := (s.heap.push PySem.W.emptyDict).push (PySem.W.instObj C s.heap.objs.size) } := by
  have e1 : (s.heap.push PySem.W.emptyDict).get? s.heap.objs.size = some PySem.W.emptyDict := Heap.get?_push_size s.heap rfl
  have e2 : ((s.heap.push PySem.W.emptyDict).push (PySem.W.instObj C s.heap.objs.size)).get? (s.heap.objs.size + 1) = some (PySem.W.instObj C s.heap.objs.size) := by
    have := Heap.get?_push_size (s.heap.push PySem.W.emptyDict) (o := PySem.W.instObj C s.heap.objs.size) rfl
    rwa [Heap.size_push] at this
  have e3 : (s.heap.push PySem.W.emptyDict).Ns s.heap.objs.size (fun _ => none) := ⟨PySem.W.emptyDict, #[], _, e1, rfl, (fun e he => absurd he (by simp)), fun _ => rfl⟩
  have I1 := I.laid (a := s.heap.objs.size) (o := .own (s.heap.objs.size + 1)) (h' := s.heap.push PySem.W.emptyDict) (t' := s.toks) (fun b u q => Heap.get?_push_of_some _ q) (Nat.le_refl _) ⟨_, e1⟩
  refine I1.laid (a := s.heap.objs.size + 1) (o := .ins C s.heap.objs.size []) (t' := s.toks) (fun b u q => Heap.get?_push_of_some _ q) (Nat.le_of_eq (Heap.size_push _ _)) ?_
  have ne : s.heap.objs.size ≠ s.heap.objs.size + 1 := Nat.ne_of_lt (Nat.lt_succ_self _)
  refine ⟨by rw [upd_ne ne, upd_same], Nat.zero_le _, ne, e2, fun _ => none, (Heap.Ns1.of_empty e3).at fun o q => Heap.get?_push_of_some _ q, fun _ => True.intro, fun y hy => absurd rfl hy⟩

theorem attr_of {prog : Program} {w : World} {env : Env} {e : Expr} {f : Str} {pos : Pos} {s : Shared} {Q : Value → Shared → Prop} (hb : attributeBase e f env (eval e env) = eval e env)
    (h : wpAny (model prog w) A (eval e env) (fun o s₁ => wpAny (model prog w) A (getAttr o f true) Q E s₁) E s) : wpAny (model prog w) A (eval (.Attribute e f pos) env) Q E s :=
  Attribute_any_ h (by rw [arm_eval_Attribute, hb])
end

inductive FldP (K : PySem.W.Frag) (f : Str) (x : V) (H1 : Hp) (Q : VK) : Prop
  | mk (a : Addr) (C : Addr) (dx : Addr) (fs : _) (v : V) (h0 : x = .ref a) (h1 : H1 a = some (.ins C dx fs)) (h2 : Cls K C) (h3 : NoAttr K C f) (h4 : fs.lookup f = some v) (q : Q v H1)
noncomputable def tFld (K : PySem.W.Frag) (ta : TE) (f : Str) : TE := fun σ H Q => ta σ H fun x H1 => FldP K f x H1 Q
noncomputable def sFld (K : PySem.W.Frag) (ta tv : TE) (f : Str) : TS := fun D σ H => tv σ H fun y H1 => ta σ H1 fun x H2 => ∃ a C dx fs, x = .ref a ∧ H2 a = some (.ins C dx fs) ∧ Cls K C ∧ NoAttr K C f ∧ fs.length < 1000 ∧
  D.nx σ (upd H2 a (.ins C dx (putF f y fs)))

section
variable {X : Cx} {o e value : Expr} {f : Str} {pos pos' tpos : Pos} {ta tv : TE}
theorem pe_fld (he : PE X e ta) (hb : attributeBase e f X.env (eval e X.env) = eval e X.env) : PE X (.Attribute e f pos) (tFld X.K ta f) := by
  intro pins s σ H Q I h
  refine attr_of hb (thn (he pins s σ H _ I h) fun u s1 z_ => ?_)
  obtain ⟨x, H1, I1, rx, a, C, dx, fs, v, ex, ea, c, n, l, q⟩ := z_
  subst ex
  obtain rfl : u = Value.ref a := rx
  exact getattr_ok I1 ea c n l fun u' s2 I2 ru => ⟨v, H1, I2, ru, q⟩
theorem ps_fld (ha : PE X o ta) (hv : PE X value tv) (hs : swapsWith value (some (.Attribute o f pos')) pos.line X.env = pure false) : PS X (.Assign [.Attribute o f pos'] value pos) (sFld X.K ta tv f) := by
  intro pins s σ H D I h
  refine plainObj_wpAny_Assign_Attribute (thn (hv pins s σ H _ I h) fun u s1 ⟨y, H1, I1, ry, q⟩ => thn (ha pins s1 σ H1 _ I1 q) fun ov s2 ⟨x, H2, I2, rx, a, C, dx, fs, ex, ea, c, n, l, q2⟩ => ?_) hs
  subst ex
  obtain rfl : ov = Value.ref a := rx
  exact setattr_ok I2 ea c n l ry fun s3 I3 => ⟨σ, _, I3, q2⟩

end

section
variable {X : Cx} {pins : List (Addr × Obj)} {σ : St} {H : Hp} {s : Shared} {A : Around} {E : Value → Shared → Prop} {Q : Value → Shared → Prop} {c : Value} {b : Bool}
inductive TyOf (K : PySem.W.Frag) (H : Hp) : V → Value → Prop where
  | non : TyOf K H .non (.type "NoneType")
  | bl (x : Bool) : TyOf K H (.bl x) (.type "bool")
  | int (i : Int) : TyOf K H (.int i) (.type "int")
  | str (x : Str) : TyOf K H (.str x) (.type "str")
  | flt (x : UInt64) : TyOf K H (.flt x) (.type "float")
  | lst {a : Addr} {xs : List V} (e : H a = some (.lst xs)) : TyOf K H (.ref a) (.type "list")
  | frz {a : Addr} {o : Obj} {xs : List V} (e : H a = some (.frz o (.lst xs))) : TyOf K H (.ref a) (.type "list")
  | tup {a : Addr} {xs : List V} (e : H a = some (.tup xs)) : TyOf K H (.ref a) (.type "tuple")
  | dK {a : Addr} {kvs : List (Key × V)} (e : H a = some (.dK kvs)) : TyOf K H (.ref a) (.type "dict")
  | dT {a : Addr} {kvs : List (List Key × V)} (e : H a = some (.dT kvs)) : TyOf K H (.ref a) (.type "dict")
  | ins {a C dx : Addr} {fs : List (Str × V)} (e : H a = some (.ins C dx fs)) (cl : Cls K C) (ha : PySem.W.findIn K (.ref C) "__class__" = some (some (.builtin "object.__class__")))
      (hn : PySem.W.specialIn K (.builtin "object.__class__") "__get__" = some (some (.builtin "getset_descriptor.__get__"))) (htk : PySem.W.takesIn K (.builtin "object.__class__") = some true)
      (hm : PySem.W.mroIn K C (.type "object") = some true) : TyOf K H (.ref a) (.ref C)
theorem isinst_ok {x : V} {u t : Value} (I : Inv X pins σ H s) (rx : RelV x u) (ty : TyOf X.K H x t) (e : PySem.W.kitOne X.K t c = some b) (h : ∀ tk, Q (.bool b) { s with toks := tk }) :
    wpAny (model X.prog X.w) A (call (.builtin "isinstance") [u, c]) Q E s := by
  cases ty with
  | non => cases (show u = Value.none from rx); exact PySem.W.kia_one PySem.W.kitx_none I.kIn True.intro e (fun z => nomatch z) h
  | bl y => cases (show u = Value.bool y from rx); exact PySem.W.kia_one PySem.W.kitx_bool I.kIn True.intro e (fun z => nomatch z) h
  | int i => obtain ⟨t, q⟩ := (show ∃ t, u = Value.int i t from rx); cases q; exact PySem.W.kia_one PySem.W.kitx_int I.kIn True.intro e (fun z => nomatch z) h
  | str y => obtain ⟨t, q⟩ := (show ∃ t, u = Value.str y t from rx); cases q; exact PySem.W.kia_one PySem.W.kitx_str I.kIn True.intro e (fun z => nomatch z) h
  | flt y => obtain ⟨t, q⟩ := (show ∃ t, u = Value.float y t from rx); cases q; exact PySem.W.kia_one PySem.W.kitx_float I.kIn True.intro e (fun z => nomatch z) h
  | @lst a xs ea =>
    cases (show u = Value.ref a from rx)
    obtain ⟨_, _, n, _, h1⟩ := (show ObjOk X.prog X.w H s.heap a (.lst xs) from I.hok a _ ea)
    exact PySem.W.kia_one PySem.W.kitx_list I.kIn ⟨_, h1, rfl⟩ e (fun z => nomatch z) h
  | @frz a ob xs ea =>
    cases (show u = Value.ref a from rx)
    obtain ⟨_, _, _, n, _, h1⟩ := (show ObjOk X.prog X.w H s.heap a (.frz ob (.lst xs)) from I.hok a _ ea)
    exact PySem.W.kia_one PySem.W.kitx_list I.kIn ⟨_, h1, rfl⟩ e (fun z => nomatch z) h
  | @tup a xs ea =>
    cases (show u = Value.ref a from rx)
    obtain ⟨_, _, _, p⟩ := (show ObjOk X.prog X.w H s.heap a (.tup xs) from I.hok a _ ea)
    obtain ⟨o, h1, h2, _⟩ := p
    exact PySem.W.kia_one PySem.W.kitx_tuple I.kIn ⟨o, h1, h2⟩ e (fun z => nomatch z) h
  | @dK a kvs ea =>
    cases (show u = Value.ref a from rx)
    obtain ⟨_, _, vs, _, p⟩ := (show ObjOk X.prog X.w H s.heap a (.dK kvs) from I.hok a _ ea)
    obtain ⟨o, es, ep, h1, h2, _⟩ := p
    exact PySem.W.kia_one PySem.W.kitx_dict I.kIn ⟨o, h1, h2.1⟩ e (fun z => nomatch z) h
  | @dT a kvs ea =>
    cases (show u = Value.ref a from rx)
    obtain ⟨_, _, xs, _, o, es, ep, h1, h2, _⟩ := (show ObjOk X.prog X.w H s.heap a (.dT kvs) from I.hok a _ ea)
    exact PySem.W.kia_one PySem.W.kitx_dict I.kIn ⟨o, h1, h2.1⟩ e (fun z => nomatch z) h
  | @ins a C dx fs ea cl ha hn htk hm =>
    cases (show u = Value.ref a from rx)
    obtain ⟨mA, O, _⟩ := ins_get I.hok ea
    obtain ⟨od, J, _⟩ := O.look
    exact PySem.W.kia_one (PySem.W.kitx_own (cl.get _) cl.hd ha hn htk hm) I.kIn J e (fun z => nomatch z) h
end
end L2

namespace L2
open PySem PySem.Spec PyProof.Rows

structure Room (k : Nat) (A : Around) : Prop where
  hd : A.handled = none
  dp : A.depth + 3 * k + 5 < recursionLimit
  un : A.units + 16 * k + 200 < cLine
  gd : A.guards = some []
theorem Room.mono {j k : Nat} {A : Around} (r : Room k A) (h : j ≤ k) : Room j A := ⟨r.hd, by have := r.dp; lia, by have := r.un; lia, r.gd⟩
theorem Room.deeper {k : Nat} {A : Around} (r : Room (k + 1) A) (env : Env) : Room k (A.deeper env) :=
  ⟨r.hd, by have := r.dp; show A.depth + 1 + 3 * k + 5 < _; lia, by have := r.un; show A.units + 3 + 16 * k + 200 < _; lia, r.gd⟩
theorem make_depth {A : Around} {C : Addr} {us : List Value} {kw : List (Str × Value)} : (A.under (.builtin "type.__call__" ⟨.ref C :: us, kw⟩)).depth = A.depth + 1 := by
  first | rfl | simp [Around.under, Code.weight, Code.isCreation, Code.isGuard, Code.isCaller, Code.frames, Code.isFrame, guardIds]
theorem make_units {A : Around} {C : Addr} {us : List Value} {kw : List (Str × Value)} : (A.under (.builtin "type.__call__" ⟨.ref C :: us, kw⟩)).units = A.units + 1 := by
  first | rfl | simp [Around.under, Code.cUnits, Code.frames, Code.isFrame]
theorem Room.make {k : Nat} {A : Around} (r : Room (k + 1) A) (C : Addr) (us : List Value) (kw : List (Str × Value)) : Room k (A.under (.builtin "type.__call__" ⟨.ref C :: us, kw⟩)) :=
  ⟨r.hd, by have := r.dp; rw [make_depth]; lia, by have := r.un; rw [make_units]; lia, by simp [Around.under, Code.guards, Code.isGuard, guardIds, pushGuards, r.gd]⟩
theorem Room.depth {k : Nat} {A : Around} (r : Room k A) : A.depth < recursionLimit := by have := r.dp; lia
theorem Room.units {k : Nat} {A : Around} (r : Room k A) : A.units + 64 < cLine := by have := r.un; lia

noncomputable def tNil : TA := fun _ H Q => Q [] H
noncomputable def tCons (ta : TE) (tr : TA) : TA := fun σ H Q => ta σ H fun x H1 => tr σ H1 fun xs H2 => Q (x :: xs) H2
section
variable {X : Cx} {e : Expr} {es : List Expr} {te : TE} {t : TA} {pos : Pos}
theorem pa_nil : PA X [] tNil := fun _ _ _ _ H Q I h => Calls.spliced_nil ⟨[], H, I, .nil, h⟩
theorem pa_cons (ha : PE X e te) (hr : PA X es t) (hs : starEach (e :: es) X.env = (false, eval e X.env) :: starEach es X.env := by rfl) : PA X (e :: es) (tCons te t) := by
  intro pos pins s σ H Q I h
  rw [hs]
  show wpAny _ _ (spliced ((false, eval e X.env) :: backTo pos (starEach es X.env))) _ _ s
  refine Calls.spliced_cons (thn (ha pins s σ H _ I h) fun u s1 z_ => ?_)
  obtain ⟨x, H1, I1, r1, q1⟩ := z_
  exact thn (hr pos pins s1 σ H1 _ I1 q1) fun us s2 ⟨xs, H2, I2, r2, q2⟩ => ⟨x :: xs, H2, I2, .cons r1 r2, q2⟩

noncomputable def tTup (t : TA) : TE := fun σ H Q => t σ H fun xs H1 => xs.length ≤ sizeLine ∧ ∀ p, H1 p = none → Q (.ref p) (upd H1 p (.tup xs))
noncomputable def tLst (t : TA) : TE := fun σ H Q => t σ H fun xs H1 => xs.length ≤ sizeLine ∧ ∀ p, H1 p = none → Q (.ref p) (upd H1 p (.lst xs))
theorem pe_tup {x1} (h : PA X es t) : PE X (.Tuple es x1 pos) (tTup t) := by
  intro pins s σ H Q I hq
  refine wpAny_Tuple_spliced (thn (h pos pins s σ H _ I hq) fun us s1 ⟨xs, H1, I1, r, z, q⟩ => ⟨by rw [← r.length]; exact z, ?_⟩)
  have hf : H1 s1.heap.objs.size = none := I1.hok.fresh (Nat.le_refl _)
  refine ⟨.ref s1.heap.objs.size, upd H1 s1.heap.objs.size (.tup xs), I1.laid (t' := s1.toks) (fun b u e => Heap.get?_push_of_some _ e) (Nat.le_refl _) ?_, rfl, q _ hf⟩
  exact ⟨z, us, r, ⟨_, Heap.get?_push_size _ rfl, rfl, _, rfl⟩⟩
theorem pe_lst (h : PA X es t) : PE X (.List es pos) (tLst t) := by
  intro pins s σ H Q I hq
  refine wpAny_List_spliced (thn (h pos pins s σ H _ I hq) fun us s1 ⟨xs, H1, I1, r, z, q⟩ => ⟨by rw [← r.length]; exact z, ?_⟩)
  have hf : H1 s1.heap.objs.size = none := I1.hok.fresh (Nat.le_refl _)
  refine ⟨.ref s1.heap.objs.size, upd H1 s1.heap.objs.size (.lst xs), I1.laid (t' := s1.toks) (fun b u e => Heap.get?_push_of_some _ e) (Nat.le_refl _) ?_, rfl, q _ hf⟩
  exact ⟨z, us, 0, r, Heap.get?_push_size _ rfl⟩
end

noncomputable abbrev Sp := List V → Hp → VK → XK → Prop
noncomputable abbrev CXT := List Env → Hp → Shared → XK → Value → Shared → Prop

structure Env0 (P : Program) (w : World) (K : PySem.W.Frag) (mg : Str → Option Value) (base : Heap) (A : Around) (outer : List Env) (s : Shared) (H : Hp) : Prop where
  frames : A.frames = some outer
  mod : Mod K mg base
  bs : ∀ b o, base.get? b = some o → s.heap.get? b = some o ∧ H b = none
  bsz : base.objs.size ≤ s.heap.objs.size
  funs : s.heap.FunFrames base outer
  frf : ∀ b ∈ frs outer, H b = none
  hok : HOk P w H s.heap
  bare : AllBare s.gens
noncomputable def CE (outer : List Env) (P : Program) (w : World) (H : Hp) (s : Shared) (Q : VK) (u : Value) (s' : Shared) : Prop :=
  ∃ v H', s'.os = s.os ∧ AllBare s'.gens ∧ Un (frs outer) [] H H' s.heap s'.heap ∧ HOk P w H' s'.heap ∧ RelV v u ∧ Q v H'
noncomputable def CR (CX : CXT) (outer : List Env) (P : Program) (w : World) (H : Hp) (s : Shared) (Q : VK) (E : XK) (r : Result) (s' : Shared) : Prop :=
  match r with
  | .ok (.ret u) => CE outer P w H s Q u s'
  | .ok _ => False
  | .error e => CX outer H s E e s'
structure FnOk (P : Program) (w : World) (K : PySem.W.Frag) (mg : Str → Option Value) (base : Heap) (CX : CXT) (k : Nat) (f : Addr) (fd : FuncData) (ps : List Str) (sp : Sp) : Prop where
  len : ∀ vs H Q E, sp vs H Q E → vs.length = ps.length
  run : ∀ (A : Around) (outer : List Env) (s : Shared) (H : Hp) (args : Args) (us : List Value) (vs : List V) (Q : VK) (E : XK), Room k A → Env0 P w K mg base A outer s H → BindsTo s fd args (ps.zip us) → Vals vs us → sp vs H Q E →
    codeAny (model P w) A (.call (.ref f) args) (CR CX outer P w H s Q E) s
theorem FnOk.imp {P : Program} {w : World} {K : PySem.W.Frag} {mg : Str → Option Value} {base : Heap} {CX : CXT} {k : Nat} {f : Addr} {fd : FuncData} {ps : List Str} {sp sp' : Sp} (F : FnOk P w K mg base CX k f fd ps sp)
    (h : ∀ vs H Q E, sp' vs H Q E → sp vs H Q E) : FnOk P w K mg base CX k f fd ps sp' :=
  ⟨fun vs H Q E q => F.len vs H Q E (h _ _ _ _ q), fun A outer s H args us vs Q E hr he hb hv hs => F.run A outer s H args us vs Q E hr he hb hv (h _ _ _ _ hs)⟩

theorem Env0.make {P : Program} {w : World} {K : PySem.W.Frag} {mg : Str → Option Value} {base : Heap} {A : Around} {outer : List Env} {s : Shared} {H : Hp} (e : Env0 P w K mg base A outer s H) (C : Addr) (us : List Value) (kw : List (Str × Value)) :
    Env0 P w K mg base (A.under (.builtin "type.__call__" ⟨.ref C :: us, kw⟩)) outer s H := ⟨by first | exact e.frames | (simpa [Around.under, Code.envs, Code.isFrame, pushEnvs] using e.frames), e.mod, e.bs, e.bsz, e.funs, e.frf, e.hok, e.bare⟩

section
variable {X : Cx} {pins : List (Addr × Obj)} {σ : St} {H : Hp} {s s' : Shared}
theorem Inv.env0 (I : Inv X pins σ H s) : Env0 X.prog X.w X.K X.mg X.base X.A X.stack s H :=
  ⟨I.ok.frames, I.ok.mod, I.bs, Nat.le_trans I.ok.bsz I.sz, I.stack, I.stkFree, I.hok, I.bare⟩
theorem Inv.after {Q : VK} {u : Value} (I : Inv X pins σ H s) (h : CE X.stack X.prog X.w H s Q u s') : EP X pins σ Q u s' := by
  obtain ⟨v, H', os, bare, un, hok, r, q⟩ := h
  obtain ⟨hh, g, d, t, os'⟩ := s'
  obtain rfl : os' = s.os := os
  exact ⟨v, H', I.call (h' := hh) (g' := g) (d' := d) (t' := t) (ch := []) un hok bare (fun b z => absurd z (by simp)), r, q⟩
end

noncomputable def tCall (sp : Sp) (dvs : List V) (E : XK) (t : TA) : TE := fun σ H Q => t σ H fun vs H1 => sp (vs ++ dvs) H1 Q E

noncomputable def Binds (K : PySem.W.Frag) (fd : FuncData) (ps : List Str) (ds : List Value) : Prop :=
  ∀ (s : Shared) (us : List Value), K.In s.heap → (us ++ ds).length = ps.length → BindsTo s fd ⟨us, []⟩ (ps.zip (us ++ ds))
theorem Binds.all {K : PySem.W.Frag} {fd : FuncData} {ps : List Str} (h : ∀ us : List Value, us.length = ps.length → bindArgs fd ⟨us, []⟩ = pure (ps.zip us)) : Binds K fd ps [] := fun s us _ hl => by
  rw [List.append_nil] at hl ⊢
  exact .of_eq (h us hl)

noncomputable def Passes (CX : CXT) (X : Cx) (E : XK) : Prop := ∀ (pins : List (Addr × Obj)) (σ : St) (H : Hp) (s : Shared) (e : Value) (s' : Shared), Inv X pins σ H s → CX X.stack H s E e s' → X.xe e s'

section
variable {X : Cx} {CX : CXT} {k : Nat} {f C : Addr} {fd : FuncData} {ps : List Str} {sp : Sp} {dvs : List V} {ds : List Value} {E : XK} {x m : Str} {p pos apos : Pos} {e o : Expr} {es : List Expr} {ta : TE} {t : TA}

theorem run_fn {pins : List (Addr × Obj)} {σ : St} {H : Hp} {s : Shared} {Q : VK} {us : List Value} {vs : List V} (F : FnOk X.prog X.w X.K X.mg X.base CX k f fd ps sp) (hr : Room k X.A) (hb : Binds X.K fd ps ds) (hd : Vals dvs ds) (hx : Passes CX X E)
    (I : Inv X pins σ H s) (r : Vals vs us) (h : sp (vs ++ dvs) H Q E) : wpAny (model X.prog X.w) X.A (call (.ref f) us) (EP X pins σ Q) X.xe s := by
  have r2 : Vals (vs ++ dvs) (us ++ ds) := r.append hd
  have hl : (us ++ ds).length = ps.length := by rw [← r2.length]; exact F.len _ _ _ _ h
  refine wpAny_call (codeAny_mono (F.run X.A X.stack s H ⟨us, []⟩ (us ++ ds) (vs ++ dvs) Q E hr I.env0 (hb s us I.kIn hl) r2 h) fun r s' hq => ?_)
  cases r with
  | error e => exact hx pins σ H s e s' I hq
  | ok fl =>
    cases fl with
    | ret u => exact I.after hq
    | next => exact False.elim hq
    | brk => exact False.elim hq
    | cont => exact False.elim hq

theorem pe_call (F : FnOk X.prog X.w X.K X.mg X.base CX k f fd ps sp) (hr : Room k X.A) (hg : Gl X x) (hm : X.mg x = some (.ref f)) (hk : PySem.W.keepIn X.K (.ref f) = true) (hb : Binds X.K fd ps ds) (hd : Vals dvs ds) (hx : Passes CX X E)
    (ha : PA X (e :: es) t) (hdb : (x == ("__debug__" : Str)) = false := by decide) (he : starEach (e :: es) X.env = (false, eval e X.env) :: starEach es X.env := by rfl) (hpl : (backTo pos (starEach es X.env)).any (·.1) = false := by rfl) :
    PE X (.Call (.Name x p) (e :: es) [] pos) (tCall sp dvs E t) := by
  intro pins s σ H Q I h
  refine wpAny_Call_Name_kw (ld_glob I hg hm ?_ hdb)
  refine PySem.W.callWith_K (h₀ := X.base) I.ok.mod.kin hk (thn (ha pos pins s σ H _ I h) fun us s1 ⟨vs, H1, I1, r, q⟩ => ⟨I1.kIn, ?_⟩) he hpl
  exact run_fn F hr hb hd hx I1 r q


structure Mk (K : PySem.W.Frag) (C f : Addr) : Prop where
  makes : PySem.W.makesIn K C = true
  init : PySem.W.findIn K (.ref C) "__init__" = some (some (.ref f))
  fn : PySem.W.isFn K (.ref f) = true
  kp : PySem.W.keepIn K (.ref C) = true

end

section
variable {X : Cx} {CX : CXT} {k : Nat} {f C : Addr} {fd : FuncData} {ps ks : List Str} {sp : Sp} {E : XK} {x m : Str} {p pos apos kpos : Pos} {e o : Expr} {es : List Expr} {kws : List Keyword} {te ta : TE} {t tk : TA} {nm : Option Str}

variable {g : List Value → List Value → List Value} {gV : List V → List V → List V}
end

structure FnScope (N P : List Str) (sc : Scope) : Prop where
  kind : sc.kind = .function
  co : sc.isCoroutine = false
  gen : sc.isGenerator = false
  nd : N.Nodup
  pre : N.take P.length = P
  par : ∀ x ∈ P, sc.names.lookup x = some .local ∨ sc.names.lookup x = some .cell
  nofree : ∀ y ∈ sc.names, y.2 ≠ .free

theorem bindL_out {kindOf : Str → Option NameKind} {x : Str} : ∀ {binds : List (Str × Value)} {m : Str → Option Value}, (∀ v, (x, v) ∉ binds) → bindL kindOf binds m x = m x
  | [], _, _ => rfl
  | (n, v) :: r, m, h => by
    unfold bindL
    rw [bindL_out fun w hw => h w (List.mem_cons_of_mem _ hw)]
    split
    · have : x ≠ n := by rintro rfl; exact h v List.mem_cons_self
      simp [this]
    · rfl
theorem bindC_out {kindOf : Str → Option NameKind} {x : Str} : ∀ {binds : List (Str × Value)} {m : Str → Option Value}, (∀ v, (x, v) ∉ binds) → bindC kindOf binds m x = m x
  | [], _, _ => rfl
  | (n, v) :: r, m, h => by
    unfold bindC
    rw [bindC_out fun w hw => h w (List.mem_cons_of_mem _ hw)]
    split
    · rfl
    · have : x ≠ n := by rintro rfl; exact h v List.mem_cons_self
      simp [this]
theorem bindL_get {kindOf : Str → Option NameKind} {x : Str} {v : Value} : ∀ {P : List Str} {vs : List Value} {i : Nat} {m : Str → Option Value}, P.Nodup → P[i]? = some x → vs[i]? = some v → kindOf x = some .local →
    bindL kindOf (P.zip vs) m x = some v
  | [], _, _, _, _, h, _, _ => by simp at h
  | _ :: _, [], _, _, _, _, h, _ => by simp at h
  | p :: P, w :: vs, 0, m, nd, h1, h2, hk => by
    simp at h1 h2; subst h1; subst h2
    show bindL kindOf ((p, w) :: P.zip vs) m p = _
    unfold bindL
    rw [bindL_out fun v hv => (List.nodup_cons.mp nd).1 (List.of_mem_zip hv).1, if_pos hk]
    simp
  | p :: P, w :: vs, i + 1, m, nd, h1, h2, hk => by
    show bindL kindOf ((p, w) :: P.zip vs) m x = _
    unfold bindL
    exact bindL_get (i := i) (List.nodup_cons.mp nd).2 (by simpa using h1) (by simpa using h2) hk
theorem bindC_get {kindOf : Str → Option NameKind} {x : Str} {v : Value} : ∀ {P : List Str} {vs : List Value} {i : Nat} {m : Str → Option Value}, P.Nodup → P[i]? = some x → vs[i]? = some v → kindOf x ≠ some .local →
    bindC kindOf (P.zip vs) m x = some v
  | [], _, _, _, _, h, _, _ => by simp at h
  | _ :: _, [], _, _, _, _, h, _ => by simp at h
  | p :: P, w :: vs, 0, m, nd, h1, h2, hk => by
    simp at h1 h2; subst h1; subst h2
    show bindC kindOf ((p, w) :: P.zip vs) m p = _
    unfold bindC
    rw [bindC_out fun v hv => (List.nodup_cons.mp nd).1 (List.of_mem_zip hv).1, if_neg hk]
    simp
  | p :: P, w :: vs, i + 1, m, nd, h1, h2, hk => by
    show bindC kindOf ((p, w) :: P.zip vs) m x = _
    unfold bindC
    exact bindC_get (i := i) (List.nodup_cons.mp nd).2 (by simpa using h1) (by simpa using h2) hk

noncomputable def start (N : List Str) (vs : List V) : St := vs.map some ++ List.replicate (N.length - vs.length) none

noncomputable def cxOf (CX : CXT) (P : Program) (w : World) (K : PySem.W.Frag) (mg : Str → Option Value) (base : Heap) (N : List Str) (qual : Str) (scope : Scope) (f : Addr) (cd : Value) (A : Around) (outer : List Env) (s : Shared) (H : Hp) (E : XK) : Cx where
  prog := P
  w := w
  K := K
  mg := mg
  base := base
  A := A.deeper (envOfC qual scope s.heap.objs.size f cd)
  N := N
  s₀ := s
  H₀ := H
  env := envOfC qual scope s.heap.objs.size f cd
  outer := outer
  stack := envOfC qual scope s.heap.objs.size f cd :: outer
  ex := []
  calm := true
  fn := fun _ => true
  pn := []
  xe := fun e s' => wpAny (model P w) (A.deeper (envOfC qual scope s.heap.objs.size f cd)) (leaving (envOfC qual scope s.heap.objs.size f cd) e) (fun _ s'' => CX outer H s E e s'') (fun e' s'' => CX outer H s E e' s'') s'

theorem cell_has {sc : Scope} {n : Nat} {x : Str} (h : sc.names.lookup x = some .cell) : ∃ c, (cellsFrom n sc.names []).lookup x = some c := by
  have q := PySem.W.cellsFrom_some sc.names n [] (.inl h)
  exact Option.isSome_iff_exists.mp q

theorem inv_start {CX : CXT} {P : Program} {w : World} {K : PySem.W.Frag} {mg : Str → Option Value} {base : Heap} {N ps : List Str} {qual : Str} {scope : Scope} {f : Addr} {cd : Value} {A : Around} {outer : List Env} {s s1 : Shared} {H : Hp} {E : XK} {us : List Value} {vs : List V}
    (S : FnScope N ps scope) (hd : A.handled = none) (e0 : Env0 P w K mg base A outer s H) (hl : vs.length = ps.length) (r : Vals vs us)
    (x : InCallC s s.heap.objs.size (bindL (envOfC qual scope s.heap.objs.size f cd).kindOf (ps.zip us) fun _ => none) (cellsFrom (s.heap.objs.size + 1) scope.names []) (bindC (envOfC qual scope s.heap.objs.size f cd).kindOf (ps.zip us) fun _ => none) s1) :
    Inv (cxOf CX P w K mg base N qual scope f cd A outer s H E) [] (start N vs) H s1 := by
  have hpl : ps.length ≤ N.length := by have := congrArg List.length S.pre; rw [List.length_take] at this; lia
  obtain ⟨h1, tk, rfl, hk⟩ := x.done
  have noA : ∀ b : Addr, b ∉ (cxOf CX P w K mg base N qual scope f cd A outer s H E).ex := fun b z => absurd (show b ∈ ([] : List Addr) from z) (by simp)
  refine ⟨⟨e0.mod, S.kind, rfl, rfl, Nat.le_refl _, fun y z c h1 h2 => ?_, fun y hy => ?_, fun y c _ h => ?_, fun _ => hd, Around.frames_deeper e0.frames, .inr ⟨rfl, rfl⟩, fun b z => absurd z (noA b), e0.bs, e0.bsz, fun b _ _ => noA b, fun b z => absurd z (noA b), e0.funs, e0.frf⟩,
    rfl, e0.bare, Un.kept hk, ⟨_, x.toInCall.ns, fun i y v h1 h2 h3 => ?_⟩, fun y c h => ⟨_, x.cell y c h⟩, e0.hok.fresh (Nat.le_refl _), fun y c h => ?_, fun p hp => absurd (show p ∈ ([] : List (Addr × Obj)) from hp) (by simp), e0.hok.kept hk, ?_⟩
  · exact name_of_addr x.apart (PySem.mem_of_lookup h1) (PySem.mem_of_lookup h2)
  · have hy : scope.names.lookup y = some .cell ∨ scope.names.lookup y = some .free := hy
    rcases hy with hy | hy
    · exact cell_has hy
    · exact absurd rfl (S.nofree _ (PySem.mem_of_lookup hy))
  · exact Nat.le_of_lt (x.above y c (PySem.mem_of_lookup h))
  · have hi : i < vs.length := by
      unfold start at h2
      by_cases hi : i < vs.length
      · exact hi
      · rw [List.getElem?_append_right (by simpa using hi)] at h2
        rw [List.getElem?_replicate] at h2
        split at h2 <;> cases h2
    have ha : vs[i]? = some v := by
      unfold start at h2
      rw [List.getElem?_append_left (by simpa using hi), List.getElem?_map] at h2
      cases e : vs[i]? with
      | none => rw [e] at h2; cases h2
      | some a => rw [e] at h2; cases h2; rfl
    obtain ⟨u, hu, rv⟩ := r.get ha
    have hp : ps[i]? = some y := by
      rw [← S.pre, List.getElem?_take_of_lt (by lia)]; exact h1
    have ndP : ps.Nodup := by rw [← S.pre]; exact S.nd.sublist (List.take_sublist _ _)
    refine ⟨u, rv, ?_⟩
    rcases S.par y (List.mem_of_getElem? hp) with k | k
    · exact .inl ⟨k, bindL_get ndP hp hu k⟩
    · obtain ⟨c, e⟩ := cell_has (n := s.heap.objs.size + 1) k
      refine .inr ⟨.inl k, c, e, ?_⟩
      have q := x.cell y c e
      rw [bindC_get ndP hp hu (by show scope.names.lookup y ≠ _; rw [k]; decide)] at q
      exact q
  · exact e0.hok.fresh (Nat.le_of_lt (x.above y c (PySem.mem_of_lookup h)))
  · unfold start
    show _ = N.length
    rw [List.length_append, List.length_map, List.length_replicate]
    lia

theorem fn_of {CX : CXT} {P : Program} {w : World} {K : PySem.W.Frag} {mg : Str → Option Value} {base : Heap} {k : Nat} {f : Addr} {name qual : Str} {params : Arguments} {body : List Stmt} {scope : Scope} {dV kV doc pm cdv ct oc : Value} {an od : Option Addr}
    {osl : Array (Option Value)} {N ps : List Str} {sp : Sp} (lk : K.lookup f = some ⟨oc, od, .func (PySem.W.fnOf name qual params body scope dV kV doc pm an cdv ct), osl⟩) (hcd : PySem.W.codeIn K cdv qual = true) (S : FnScope N ps scope)
    (len : ∀ vs H Q E, sp vs H Q E → vs.length = ps.length)
    (hbody : ∀ (A : Around) (outer : List Env) (s : Shared) (H : Hp) (vs : List V) (Q : VK) (E : XK), Room k (A.deeper (envOfC qual scope s.heap.objs.size f cdv)) → sp vs H Q E →
      ∃ t, PSs (cxOf CX P w K mg base N qual scope f cdv A outer s H E) body t ∧ t { nx := fun _ H' => Q .non H', rt := Q } (start N vs) H) :
    FnOk P w K mg base CX (k + 1) f (PySem.W.fnOf name qual params body scope dV kV doc pm an cdv ct) ps sp := by
  refine ⟨len, fun A outer s H args us vs Q E hr e0 hb r hsp => ?_⟩
  have hl := len _ _ _ _ hsp
  have KX : K.In s.heap := e0.mod.kin.keeps fun b o e => (e0.bs b o e).1
  have lim : s.heap.NoLimit := e0.mod.nolimit.keeps fun b o e => (e0.bs b o e).1
  have hkind : ∀ y ∈ ps.zip us, scope.names.lookup y.1 = some .local ∨ (scope.names.lookup y.1 = some .cell ∧ ((cellsFrom (s.heap.objs.size + 1) scope.names []).lookup y.1).isSome = true) := fun ⟨n, v⟩ hy => by
    rcases S.par n (List.of_mem_zip hy).1 with q | q
    · exact .inl q
    · exact .inr ⟨q, PySem.W.cellsFrom_some _ _ _ (.inl q)⟩
  refine codeAny_call_function hr.depth (KX _ _ lk) rfl S.co S.gen rfl (PySem.W.codeRec_of KX hcd) (hb _ _ _ _ ?_)
  refine wpAny_newFunctionEnv_cells S.kind hkind fun env he s1 x => ?_
  subst he
  refine ⟨lim.keeps x.toInCall.keep, codeAny_func ?_⟩
  obtain ⟨t, ht, hq⟩ := hbody A outer s H vs Q E (hr.deeper _) hsp
  have I : Inv (cxOf CX P w K mg base N qual scope f cdv A outer s H E) [] (start N vs) H s1 := inv_start S hr.hd e0 hl r x
  refine wpAny_mono (ht [] s1 (start N vs) H _ I hq) (fun fl s' hs => ?_) fun e s' hs => hs
  have fin : ∀ {σ' : St} {H' : Hp} {v : V} {u : Value}, Inv (cxOf CX P w K mg base N qual scope f cdv A outer s H E) [] σ' H' s' → RelV v u → Q v H' → CE outer P w H s Q u s' :=
    fun {σ' H' v u} J rv q => ⟨v, H', J.os, J.bare, J.base, J.hok, rv, q⟩
  cases fl with
  | ret u =>
    obtain ⟨v, σ', H', J, rv, q⟩ := hs
    exact fin J rv q
  | next =>
    obtain ⟨σ', H', J, q⟩ := hs
    exact fin (v := V.non) (u := Value.none) J rfl q
  | brk =>
    obtain ⟨_, _, _, q⟩ := hs
    exact False.elim q
  | cont =>
    obtain ⟨_, _, _, q⟩ := hs
    exact False.elim q
end L2

namespace L2
open PySem PySem.Spec PyProof.Rows
section
variable {X : Cx} {x : Str} {p pos : Pos} {e : Expr} {es : List Expr} {t : TA} {id T : String} {r : List V → Hp → VK → Prop}

noncomputable def tCB (r : List V → Hp → VK → Prop) (t : TA) : TE := fun σ H Q => t σ H fun vs H1 => r vs H1 Q
theorem pe_callB (hc : CallR X (.builtin id) r) (hg : Gl X x) (hm : X.mg x = none) (hv : bootBuiltins x = some (.builtin id)) (ha : PA X (e :: es) t) (hn : x ≠ "__name__" := by decide) (hdb : (x == ("__debug__" : Str)) = false := by decide)
    (he : starEach (e :: es) X.env = (false, eval e X.env) :: starEach es X.env := by rfl) (hpl : (backTo pos (starEach es X.env)).any (·.1) = false := by rfl) : PE X (.Call (.Name x p) (e :: es) [] pos) (tCB r t) := by
  intro pins s σ H Q I h
  refine wpAny_Call_Name_kw (ld_blt I hg hm hv ?_ hn hdb)
  exact PyProof.Rows.callWith_builtin1 (thn (ha pos pins s σ H _ I h) fun us s1 ⟨vs, H1, I1, r1, q1⟩ => hc pins s1 σ H1 vs us Q I1 r1 q1) he hpl
theorem pe_callTy (hc : CallR X (.type T) r) (hg : Gl X x) (hm : X.mg x = none) (hv : bootBuiltins x = some (.type T)) (ha : PA X (e :: es) t) (hn : x ≠ "__name__" := by decide) (hdb : (x == ("__debug__" : Str)) = false := by decide)
    (he : starEach (e :: es) X.env = (false, eval e X.env) :: starEach es X.env := by rfl) (hpl : (backTo pos (starEach es X.env)).any (·.1) = false := by rfl) : PE X (.Call (.Name x p) (e :: es) [] pos) (tCB r t) := by
  intro pins s σ H Q I h
  refine wpAny_Call_Name_kw (ld_blt I hg hm hv ?_ hn hdb)
  exact PyProof.Rows.callWith_type1 (thn (ha pos pins s σ H _ I h) fun us s1 ⟨vs, H1, I1, r1, q1⟩ => hc pins s1 σ H1 vs us Q I1 r1 q1) he hpl
end
end L2

namespace HT
open PySem PyProof.Rows



section
open PySem.SeqAt
open PySem.AutoSeq1 (wpAny_loadPart')
open PySem.MeetsSeq PySem.MeetsSeq2 PySem.MeetsSeq3

end

section
variable {prog : Program} {w : World} {A : Around} {E : Value → Shared → Prop} {s : Shared}



noncomputable def sIx (n d : Nat) : Option Int → Nat
  | none => d
  | some v => if v < 0 then (v + (n : Int)).toNat else min v.toNat n
theorem sIx_nat (n d k : Nat) : sIx n d (some (k : Int)) = min k n := by
  show (if (k : Int) < 0 then ((k : Int) + (n : Int)).toNat else min (k : Int).toNat n) = min k n
  rw [if_neg (by lia), Int.toNat_natCast]
theorem sIx_le (n d : Nat) (hd : d ≤ n) (o : Option Int) : sIx n d o ≤ n := by
  cases o with
  | none => exact hd
  | some v =>
    show (if v < 0 then (v + (n : Int)).toNat else min v.toNat n) ≤ n
    by_cases hv : v < 0
    · rw [if_pos hv]; lia
    · rw [if_neg hv]; exact Nat.min_le_right _ _
theorem clip_eq (v : Int) (n d : Nat) : (if v < 0 then max (v + (n : Int)) 0 else min v (n : Int)) = ((sIx n d (some v) : Nat) : Int) := by
  show (if v < 0 then max (v + (n : Int)) 0 else min v (n : Int)) = (((if v < 0 then (v + (n : Int)).toNat else min v.toNat n) : Nat) : Int)
  by_cases hv : v < 0
  · simp only [if_pos hv]; lia
  · simp only [if_neg hv]; lia
theorem adjust_gen (lo hi : Option Int) (n : Nat) : Builtin.Slice.sliceAdjust lo hi 1 (n : Int) = (((sIx n 0 lo : Nat) : Int), ((sIx n n hi : Nat) : Int)) := by
  have h1 : ¬ ((1 : Int) < 0) := by lia
  unfold Builtin.Slice.sliceAdjust
  simp only [h1, if_false]
  refine Prod.ext ?_ ?_
  · cases lo with
    | none => rfl
    | some v => exact clip_eq v n 0
  · cases hi with
    | none => rfl
    | some v => exact clip_eq v n n
theorem places_gen (i j : Nat) : Builtin.Slice.slicePlaces (i : Int) (j : Int) 1 = j - i := by
  unfold Builtin.Slice.slicePlaces
  have h1 : (1 : Int) > 0 := by lia
  simp only [h1, if_true, Int.ediv_one]
  split <;> lia
theorem slicePart_ {v : Value} {o : Option Int} {Q : Option Int → Shared → Prop} (p : IsPart v o) (h : Q o s) : wpAny (model prog w) A (Builtin.Slice.slicePartIndex v) Q E s := by
  cases p with
  | none => exact slicePart_none h
  | int i t => exact slicePart_int h
theorem sliceApplied_gen {sl : Addr} {vl vu : Value} {lo hi : Option Int} {n : Nat} {Q : Int × Int × Nat → Shared → Prop} (hs : s.heap.IsSliceOf sl vl vu .none) (pl : IsPart vl lo) (pu : IsPart vu hi)
    (h : Q (((sIx n 0 lo : Nat) : Int), 1, sIx n n hi - sIx n 0 lo) s) : wpAny (model prog w) A (Builtin.Slice.sliceApplied (.ref sl) (pure (n : Int))) Q E s := by
  obtain ⟨os, hos, hcs, hds⟩ := id hs
  unfold Builtin.Slice.sliceApplied Builtin.Slice.sliceFields
  refine wpAny_bind (wpAny_bind (wpAny_field hos hds (x := vl) rfl (wpAny_bind (wpAny_field hos hds (x := vu) rfl (wpAny_bind (wpAny_field hos hds (x := .none) rfl (wpAny_pure ?_)))))))
  refine wpAny_bind (slicePart_none ?_)
  show wpAny _ _ (if ((1 : Int) == 0) = true then _ else _) _ _ s
  rw [if_neg (by decide)]
  refine wpAny_bind (slicePart_ pl (wpAny_bind (slicePart_ pu (wpAny_bind (wpAny_pure ?_)))))
  show wpAny _ _ (match Builtin.Slice.sliceAdjust lo hi 1 (n : Int) with | (lo, hi) => pure (lo, (1 : Int), Builtin.Slice.slicePlaces lo hi 1)) _ _ s
  rw [adjust_gen lo hi n]
  show wpAny _ _ (pure (((sIx n 0 lo : Nat) : Int), (1 : Int), Builtin.Slice.slicePlaces ((sIx n 0 lo : Nat) : Int) ((sIx n n hi : Nat) : Int) 1)) _ _ s
  rw [places_gen]
  exact wpAny_pure h
theorem pick_gen (xs : Array Value) (i k : Nat) : ((List.range k).filterMap fun (m : Nat) => xs[((i : Int) + (m : Int) * 1).toNat]?).toArray = ((xs.toList.drop i).take k).toArray := by
  have e : (fun (m : Nat) => xs[((i : Int) + (m : Int) * 1).toNat]?) = fun m => xs[i + m]? := by
    funext m
    have : ((i : Int) + (m : Int) * 1).toNat = i + m := by lia
    rw [this]
  rw [e]
  have := pick_run xs i k
  rw [List.filterMap_map] at this
  have e2 : ((fun x => xs[x]?) ∘ fun x => i + x) = fun m => xs[i + m]? := rfl
  rw [e2] at this
  rw [this]

theorem getItem_tuple_cut {t sl : Addr} {items : Array Value} {vl vu : Value} {lo hi : Option Int} {Q : Value → Shared → Prop} (ht : IsTup s.heap t items) (hs : s.heap.IsSliceOf sl vl vu .none) (pl : IsPart vl lo) (pu : IsPart vu hi)
    (hw : ¬ (sIx items.size 0 lo = 0 ∧ sIx items.size items.size hi = items.size))
    (h : Q (.ref s.heap.objs.size) { s with heap := s.heap.push { cls := .type "tuple", data := .seq ((items.toList.drop (sIx items.size 0 lo)).take (sIx items.size items.size hi - sIx items.size 0 lo)).toArray } })
    (hsz : items.size ≤ sizeLine) : wpAny (model prog w) A (getItem (.ref t) (.ref sl)) Q E s := by
  have htake : sizeOk (.seq ((items.toList.drop (sIx items.size 0 lo)).take (sIx items.size items.size hi - sIx items.size 0 lo)).toArray) := by
    show ((items.toList.drop (sIx items.size 0 lo)).take (sIx items.size items.size hi - sIx items.size 0 lo)).toArray.size ≤ sizeLine
    rw [List.size_toArray, List.length_take, List.length_drop, Array.length_toList]
    lia
  have hj : sIx items.size items.size hi ≤ items.size := sIx_le _ _ (Nat.le_refl _) hi
  obtain ⟨os, hos, hcs, hds⟩ := id hs
  have hTs : s.TypeIs (.ref sl) "slice" := ⟨os, hos, hcs⟩
  unfold getItem
  try with_reducible refine wpAny_holding ?_
  first | refine wpAny_bind (wpAny_pure ?_) | skip
  refine wpAny_bind (wpAny_sequenceKey ht.typeIs (by decide) ?_)
  refine wpAny_bind (wpAny_callSpecial?_slot (name := Str.ofString "__getitem__") ht.typeIs PyProof.Rows.slot_tuple_getitem
    (wpAny_call_entry PyProof.Rows.slot_tuple_getitem ht.typeIs entry_tuple_getitem ?_ (args_tuple_getitem _ _)))
  show wpAny _ _ (Builtin.Tuple.tupleItemsOf (.ref t) >>= _) _ _ s
  refine wpAny_bind (tupleItemsOf_ ht ?_)
  refine wpAny_bind (wpAny_typeOf hTs ?_)
  rw [if_pos (by decide)]
  refine wpAny_bind (sliceApplied_gen hs pl pu ?_)
  have hno : ¬ ((((sIx items.size 0 lo : Nat) : Int) == 0 && (1 : Int) == 1 && (sIx items.size items.size hi - sIx items.size 0 lo) == items.size) = true) := by
    intro q
    rw [Bool.and_eq_true, Bool.and_eq_true] at q
    have q1 : ((sIx items.size 0 lo : Nat) : Int) = 0 := eq_of_beq q.1.1
    have q2 : sIx items.size items.size hi - sIx items.size 0 lo = items.size := eq_of_beq q.2
    exact hw ⟨by lia, by lia⟩
  show wpAny _ _ (if (((sIx items.size 0 lo : Nat) : Int) == 0 && (1 : Int) == 1 && (sIx items.size items.size hi - sIx items.size 0 lo) == items.size) = true then _ else _) _ _ s
  rw [if_neg hno, pick_gen]
  first
    | exact wpAny_bind (m := Builtin.Tuple.tupleExact _) (wpAny_newObj_type (wpAny_pure ⟨_, rfl, wpAny_pure h⟩) htake)
    | exact wpAny_bind (m := Builtin.Tuple.tupleExact _) (wpAny_newObj_type (wpAny_bind (wpAny_pure (wpAny_pure ⟨_, rfl, wpAny_pure h⟩))) htake)
    | exact wpAny_bind (wpAny_bind (m := Builtin.Tuple.tupleExact _) (wpAny_newObj_type (wpAny_pure (wpAny_pure ⟨_, rfl, wpAny_pure h⟩)) htake))
    | exact wpAny_bind (wpAny_bind (m := Builtin.Tuple.tupleExact _) (wpAny_newObj_type (wpAny_pure ⟨_, rfl, wpAny_pure h⟩) htake))
end
end HT

namespace L2
open PySem PySem.Spec PyProof.Rows

noncomputable abbrev TO := St → Hp → (Option Int → Hp → Prop) → Prop
noncomputable def PO (X : Cx) (e : Option Expr) (t : TO) : Prop :=
  ∀ (pins : List (Addr × Obj)) (s : Shared) (σ : St) (H : Hp) (Q : Option Int → Hp → Prop), Inv X pins σ H s → t σ H Q →
    wpAny (model X.prog X.w) X.A (evalPart e X.env) (fun u s' => ∃ o H', Inv X pins σ H' s' ∧ IsPart u o ∧ Q o H') X.xe s
noncomputable def tNoPart : TO := fun _ H Q => Q none H
noncomputable def tPart (t : TE) : TO := fun σ H Q => t σ H fun x H1 => ∃ i, x = .int i ∧ Q (some i) H1


section
variable {X : Cx} {e : Expr} {te : TE} {lo hi : Option Expr} {tl th : TO} {pos p2 : Pos}

theorem po_none : PO X none tNoPart := by
  intro pins s σ H Q I h
  rw [evalPart_none]
  exact wpAny_pure ⟨none, H, I, .none, h⟩
theorem po_some (h : PE X e te) : PO X (some e) (tPart te) := by
  intro pins s σ H Q I hw
  rw [evalPart_some]
  refine thn (h pins s σ H _ I hw) fun u s1 z_ => ?_
  obtain ⟨x, H1, I1, r1, q1⟩ := z_
  obtain ⟨i, rfl, q⟩ := q1
  obtain ⟨t, rfl⟩ := r1
  exact ⟨some i, H1, I1, .int i t, q⟩

noncomputable def SlR (X : Cx) (r : V → Option Int → Option Int → Hp → VK → Prop) : Prop :=
  ∀ (pins : List (Addr × Obj)) (s : Shared) (σ : St) (H : Hp) (x : V) (v vl vu : Value) (lo hi : Option Int) (sl : Addr) (Q : VK), Inv X pins σ H s → RelV x v → s.heap.IsSliceOf sl vl vu .none → IsPart vl lo → IsPart vu hi → r x lo hi H Q →
    ∃ T id, typeLookup (.type T) "__getitem__" = pure (some (.builtin id)) ∧ s.TypeIs v T ∧ wpAny (model X.prog X.w) X.A (getItem v (.ref sl)) (EP X pins σ Q) X.xe s
noncomputable def tSl (r : V → Option Int → Option Int → Hp → VK → Prop) (te : TE) (tl th : TO) : TE := fun σ H Q => te σ H fun x H1 => tl σ H1 fun l H2 => th σ H2 fun u H3 => r x l u H3 Q
theorem pe_slice {r : V → Option Int → Option Int → Hp → VK → Prop} (hr : SlR X r) (he : PE X e te) (hl : PO X lo tl) (hu : PO X hi th) : PE X (.Subscript e (.Slice lo hi none p2) pos) (tSl r te tl th) := by
  intro pins s σ H Q I h
  refine Subscript_ (thn (he pins s σ H _ I h) fun v s1 z_ => ?_)
  obtain ⟨x, H1, I1, r1, q1⟩ := z_
  refine wpAny_Slice (thn (hl pins s1 σ H1 _ I1 q1) fun vl s2 ⟨l, H2, I2, pl, q2⟩ => thn (hu pins s2 σ H2 _ I2 q2) fun vu s3 z_ => ?_)
  obtain ⟨u, H3, I3, pu, q3⟩ := z_
  rw [evalPart_none]
  refine wpAny_pure ?_
  have I4 : Inv X pins σ H3 { s3 with heap := s3.heap.push { cls := .type "slice", data := .fields #[vl, vu, .none] } } := I3.kept (t' := s3.toks) fun b ob q => Heap.get?_push_of_some _ q
  obtain ⟨T, id, hT, ht, hg⟩ := hr pins { s3 with heap := s3.heap.push { cls := .type "slice", data := .fields #[vl, vu, .none] } } σ H3 x v vl vu l u s3.heap.objs.size Q I4 r1 (Heap.IsSliceOf.new ..) pl pu q3
  show wpAny (model X.prog X.w) X.A (subscriptTail e (.Slice lo hi none p2) v (.ref s3.heap.objs.size)) (EP X pins σ Q) X.xe { s3 with heap := s3.heap.push { cls := .type "slice", data := .fields #[vl, vu, .none] } }
  exact tail_any (ops := [.ref s3.heap.objs.size, v]) ht hT hg (by with_unfolding_all rfl)

noncomputable def cutV (xs : List V) (lo hi : Option Int) : List V := (xs.drop (HT.sIx xs.length 0 lo)).take (HT.sIx xs.length xs.length hi - HT.sIx xs.length 0 lo)
theorem cutV_length (xs : List V) (lo hi : Option Int) : (cutV xs lo hi).length ≤ xs.length := by
  unfold cutV
  rw [List.length_take, List.length_drop]
  lia
inductive rSlTP (K : PySem.W.Frag) (x : V) (lo : Option Int) (hi : Option Int) (H : Hp) (Q : VK) : Prop
  | mk (a : _) (xs : _) (h_0 : x = .ref a) (h_1 : SqT K H a xs) (h_2 : ¬ (HT.sIx xs.length 0 lo = 0 ∧ HT.sIx xs.length xs.length hi = xs.length)) (h_3 : ∀ p, H p = none → Q (.ref p) (upd H p (.tup (cutV xs lo hi))))
noncomputable def rSlT (K : PySem.W.Frag) : V → Option Int → Option Int → Hp → VK → Prop := fun x lo hi H Q => rSlTP K x lo hi H Q
theorem sl_tup : SlR X (rSlT X.K) := by
  intro pins s σ H x v vl vu lo hi sl Q I rx hs pl pu h
  obtain ⟨a, xs, rfl, hx, hw, q⟩ := h
  cases rx
  obtain ⟨its, r, ht, hz⟩ := I.tuple hx
  have hlen : its.toArray.size = xs.length := by rw [List.size_toArray]; exact r.length.symm
  refine ⟨"tuple", _, PyProof.Rows.slot_tuple_getitem.lookup, ht.typeIs, ?_⟩
  refine HT.getItem_tuple_cut ht hs pl pu (by rw [hlen]; exact hw) ?_ (by rw [hlen]; exact hz)
  rw [hlen]
  refine ⟨.ref s.heap.objs.size, _, I.laid (t' := s.toks) (o := .tup (cutV xs lo hi)) (fun b ob q => Heap.get?_push_of_some _ q) (Nat.le_refl _) ?_, rfl, q _ (I.hok.fresh (Nat.le_refl _))⟩
  exact ⟨Nat.le_trans (cutV_length xs lo hi) hz, _, (r.drop (HT.sIx xs.length 0 lo)).take (HT.sIx xs.length xs.length hi - HT.sIx xs.length 0 lo), IsTup.new _ _⟩

end
end L2

namespace L2
open PySem PySem.Spec PyProof.Rows

noncomputable def ixN (n : Nat) (i : Int) : Option Nat := if 0 ≤ i then (if i < n then some i.toNat else none) else if -(n : Int) ≤ i then some (i + n).toNat else none
noncomputable def atI {α : Type} (xs : List α) (i : Int) : Option α := (ixN xs.length i).bind fun j => xs[j]?
theorem ixN_seq {n : Nat} {i : Int} {j : Nat} (h : ixN n i = some j) : seqIndex? i n = some j ∧ j < n ∧ -(n : Int) ≤ i ∧ i < n := by
  unfold ixN at h
  by_cases h0 : 0 ≤ i
  · rw [if_pos h0] at h
    by_cases h1 : i < n
    · rw [if_pos h1] at h
      have e : i.toNat = j := Option.some.inj h
      exact ⟨by rw [seqIndex_of h0 h1, e], by lia, by lia, h1⟩
    · rw [if_neg h1] at h; cases h
  · rw [if_neg h0] at h
    by_cases h1 : -(n : Int) ≤ i
    · rw [if_pos h1] at h
      have e : (i + n).toNat = j := Option.some.inj h
      exact ⟨by rw [seqIndex_neg (by lia) h1, e], by lia, h1, by lia⟩
    · rw [if_neg h1] at h; cases h
theorem atI_get {α : Type} {xs : List α} {i : Int} {v : α} (h : atI xs i = some v) : ∃ j, seqIndex? i xs.length = some j ∧ xs[j]? = some v ∧ j < xs.length ∧ -(xs.length : Int) ≤ i ∧ i < xs.length := by
  unfold atI at h
  cases e : ixN xs.length i with
  | none => rw [e] at h; cases h
  | some j =>
    rw [e] at h
    obtain ⟨h1, h2, h3, h4⟩ := ixN_seq e
    exact ⟨j, h1, h, h2, h3, h4⟩
theorem atI_nat {α : Type} {xs : List α} {j : Nat} {v : α} (h : xs[j]? = some v) : atI xs (j : Int) = some v := by
  have hj : j < xs.length := (List.getElem?_eq_some_iff.mp h).1
  have e : ixN xs.length (j : Int) = some j := by
    unfold ixN
    rw [if_pos (by lia), if_pos (by lia)]; simp
  unfold atI; rw [e]; exact h

noncomputable def PlainIx (b : Expr) : Prop := ∀ o i, subscripted b false o i = operate [o, i] (getItem o i)
noncomputable def IxR (X : Cx) (r : R2) : Prop :=
  ∀ (value slice : Expr) (pins : List (Addr × Obj)) (s : Shared) (σ : St) (H : Hp) (x y : V) (v u : Value) (Q : VK), Inv X pins σ H s → RelV x v → RelV y u → r x y H Q →
    subscripted slice false v u = operate [v, u] (getItem v u) → wpAny (model X.prog X.w) X.A (subscriptTail value slice v u) (EP X pins σ Q) X.xe s
noncomputable def MtR (X : Cx) (id : String) (r : V → List V → Hp → VK → Prop) : Prop :=
  ∀ (pins : List (Addr × Obj)) (s : Shared) (σ : St) (H : Hp) (x : V) (xs : List V) (v : Value) (us : List Value) (Q : VK), Inv X pins σ H s → RelV x v → Vals xs us → r x xs H Q →
    wpAny (model X.prog X.w) X.A (call (.builtin id) (v :: us)) (EP X pins σ Q) X.xe s
section
variable {X : Cx} {a b : Expr} {ta tb : TE} {pos : Pos}
theorem pe_ix {r : R2} (hr : IxR X r) (ha : PE X a ta) (hb : PE X b tb) (hs : PlainIx b) : PE X (.Subscript a b pos) (tOp r ta tb) := by
  intro pins s σ H Q I h
  exact Subscript_ (binT ha hb I h fun v u s2 x y H2 I2 rx ry q => hr a b pins s2 σ H2 x y v u Q I2 rx ry q (hs _ _))

inductive rIxLP (K : PySem.W.Frag) (x : V) (y : V) (H : Hp) (Q : VK) : Prop
  | mk (p : _) (xs : _) (i : _) (v : _) (h_0 : x = .ref p) (h_1 : y = .int i) (h_2 : SqL K H p xs) (h_3 : atI xs i = some v) (h_4 : Q v H)
noncomputable def rIxL (K : PySem.W.Frag) : R2 := fun x y H Q => rIxLP K x y H Q
inductive rIxTP (K : PySem.W.Frag) (x : V) (y : V) (H : Hp) (Q : VK) : Prop
  | mk (p : _) (xs : _) (i : _) (v : _) (h_0 : x = .ref p) (h_1 : y = .int i) (h_2 : SqT K H p xs) (h_3 : atI xs i = some v) (h_4 : Q v H)
noncomputable def rIxT (K : PySem.W.Frag) : R2 := fun x y H Q => rIxTP K x y H Q
inductive rIxSP (x : V) (y : V) (H : Hp) (Q : VK) : Prop
  | mk (z : _) (i : _) (c : _) (h_0 : x = .str z) (h_1 : y = .int i) (h_2 : z.length ≤ sizeLine) (h_3 : atI z.cps.toList i = some c) (h_4 : Q (.str ⟨#[c]⟩) H)
noncomputable def rIxS : R2 := fun x y H Q => rIxSP x y H Q
theorem ix_list : IxR X (rIxL X.K) := by
  intro value slice pins s σ H x y v u Q I rx ry h hs
  obtain ⟨p, xs, i, z, rfl, rfl, hq, he, q⟩ := h
  cases rx
  obtain ⟨t, rfl⟩ := ry
  obtain ⟨its, r, pl, hz⟩ := I.list hq
  obtain ⟨j, h1, h2, h3, h4, h5⟩ := atI_get he
  obtain ⟨w, ew, rw'⟩ := r.get h2
  have hl := r.length
  have hn := line63
  have fin : EP X pins σ Q w s := ⟨z, H, I, rw', q⟩
  by_cases h0 : 0 ≤ i
  · have hj : i.toNat = j := by
      rw [seqIndex_of h0 h5] at h1
      exact Option.some.inj h1
    exact item_listR pl.isList h0 (by lia) (by rw [hj]; simpa using ew) fin hs
  · have hj : (i + (its.toArray.size : Int)).toNat = j := by
      rw [seqIndex_neg (by lia) h4] at h1
      rw [List.size_toArray, ← hl]
      exact Option.some.inj h1
    exact subscriptTail_builtinR (x := w) pl.isList.typeIs slot_list_getitem.lookup
      (wpAny_getItem_list_neg (Q := fun r s' => r = w ∧ EP X pins σ Q r s') pl.isList (by lia) (by rw [List.size_toArray] <;> lia) (by lia) (by rw [hj]; simpa using ew) ⟨rfl, fin⟩) hs
theorem ix_tup : IxR X (rIxT X.K) := by
  intro value slice pins s σ H x y v u Q I rx ry h hs
  obtain ⟨p, xs, i, z, rfl, rfl, hq, he, q⟩ := h
  cases rx
  obtain ⟨t, rfl⟩ := ry
  obtain ⟨its, r, pl, hz⟩ := I.tuple hq
  obtain ⟨j, h1, h2, h3, h4, h5⟩ := atI_get he
  obtain ⟨w, ew, rw'⟩ := r.get h2
  have hl := r.length
  have hn := line63
  have fin : EP X pins σ Q w s := ⟨z, H, I, rw', q⟩
  exact subscriptTail_builtinR (x := w) pl.typeIs slot_tuple_getitem.lookup
    (getItem_tuple (j := j) (Q := fun r s' => r = w ∧ EP X pins σ Q r s') pl (by lia) (by lia) (by rw [List.size_toArray, ← hl]; exact h1) (by simpa using ew) ⟨rfl, fin⟩) hs
theorem ix_str : IxR X rIxS := by
  intro value slice pins s σ H x y v u Q I rx ry h hs
  obtain ⟨z, i, c, rfl, rfl, hz, he, q⟩ := h
  obtain ⟨t, rfl⟩ := rx
  obtain ⟨t', rfl⟩ := ry
  obtain ⟨j, h1, h2, h3, h4, h5⟩ := atI_get he
  have hl : z.cps.toList.length = z.length := by simp [Str.length]
  rw [hl] at h1 h4 h5
  have hn := line63
  exact tail_any (typeIs_str s z t) slot_str_getitem.lookup (getItem_str (c := c) (by
    have e1 : decide (i < -(2 ^ 63 : Int)) = false := decide_eq_false (by lia)
    have e2 : decide (i ≥ 2 ^ 63) = false := decide_eq_false (by lia)
    rw [e1, e2, Bool.or_false]) (by rw [h1]; simpa using h2) ⟨.str ⟨#[c]⟩, H, I.tok _, ⟨_, rfl⟩, q⟩) hs

theorem mapSeq_set (its : List Value) (n j : Nat) (u : Value) : Obj.mapSeq (·.setIfInBounds j u) { cls := .type "list", data := .seq its.toArray n } = { cls := .type "list", data := .seq (its.set j u).toArray n } := by
  simp [Obj.mapSeq]
theorem Inv.lst {pins : List (Addr × Obj)} {σ : St} {H : Hp} {s : Shared} {p : Addr} {xs : List V} (I : Inv X pins σ H s) (h : H p = some (.lst xs)) :
    ∃ (its : List Value) (n : Nat), Vals xs its ∧ s.heap.get? p = some { cls := .type "list", data := .seq its.toArray n } ∧ xs.length ≤ sizeLine := by
  obtain ⟨z, its, n, r, e⟩ := I.hok p _ h
  exact ⟨its, n, r, e, z⟩
theorem Inv.lstUpd {pins : List (Addr × Obj)} {σ : St} {H : Hp} {s : Shared} {p : Addr} {xs ys : List V} {its its' : List Value} {n n' : Nat} {f : Obj → Obj} (I : Inv X pins σ H s) (h : H p = some (.lst xs))
    (ho : s.heap.get? p = some { cls := .type "list", data := .seq its.toArray n }) (hf : f { cls := .type "list", data := .seq its.toArray n } = { cls := .type "list", data := .seq its'.toArray n' }) (r : Vals ys its') (hz : ys.length ≤ sizeLine) (t : Nat) :
    Inv X pins σ (upd H p (.lst ys)) { s with heap := s.heap.update p f, toks := t } := by
  have e : (s.heap.update p f).get? p = some { cls := .type "list", data := .seq its'.toArray n' } := by
    rw [Heap.get?_update_self f ho (by rw [hf] <;> rfl), hf]
  refine I.write (x := p) (e := p) (by rw [h]; trivial) (.inl rfl) (fun b u hb q => (Heap.get?_update_other _ _ (Ne.symm hb)).trans q) ⟨_, e⟩ ?_
  exact ⟨hz, its', n', r, e⟩
inductive rSetLP (o : V) (i : V) (v : V) (H : Hp) (Q : (Hp → Prop)) : Prop
  | mk (p : _) (xs : _) (k : _) (j : _) (h_0 : o = .ref p) (h_1 : i = .int k) (h_2 : H p = some (.lst xs)) (h_3 : ixN xs.length k = some j) (h_4 : Q (upd H p (.lst (xs.set j v))))
noncomputable def rSetL : V → V → V → Hp → (Hp → Prop) → Prop := fun o i v H Q => rSetLP o i v H Q
theorem set_list : PSet X rSetL := by
  intro pins s σ H o i v ov iv u Q I ro ri rv h
  obtain ⟨p, xs, k, j, rfl, rfl, hp, hj, q⟩ := h
  cases ro
  obtain ⟨t, rfl⟩ := ri
  obtain ⟨its, n, r, ho, hz⟩ := I.lst hp
  obtain ⟨h1, h2, h3, h4⟩ := ixN_seq hj
  have hl := r.length
  have hn := line63
  have I' : Inv X pins σ (upd H p (.lst (xs.set j v))) { s with heap := s.heap.update p (Obj.mapSeq (·.setIfInBounds j u)) } :=
    I.lstUpd hp ho (mapSeq_set its n j u) (r.set rv j) (by rw [List.length_set]; exact hz) s.toks
  by_cases h0 : 0 ≤ k
  · have hk : k.toNat = j := by
      rw [seqIndex_of h0 h4] at h1
      exact Option.some.inj h1
    exact PySem.W.ki_setAt ho h0 (by lia) (by rw [List.size_toArray, ← hl]; exact h4) (by rw [hk]; exact ⟨_, I', q⟩)
  · have hk : (k + (its.toArray.size : Int)).toNat = j := by
      rw [seqIndex_neg (by lia) h3] at h1
      rw [List.size_toArray, ← hl]
      exact Option.some.inj h1
    exact PySem.W.ki_setBack ho (by lia) (by rw [List.size_toArray, ← hl]; exact h3) (by lia) (by rw [hk]; exact ⟨_, I', q⟩)

theorem slice_bounds (lo hi : Option Int) (n : Nat) : (sliceBounds lo hi none n).1 = ((HT.sIx n 0 lo : Nat) : Int) ∧ (sliceBounds lo hi none n).2.1 = ((HT.sIx n n hi : Nat) : Int) ∧ (sliceBounds lo hi none n).2.2 = 1 := by
  refine ⟨?_, ?_, rfl⟩
  · cases lo with
    | none => simp [sliceBounds, HT.sIx]
    | some i =>
      simp only [sliceBounds, HT.sIx, Option.getD_none, show (1 : Int) > 0 by decide, if_true]
      by_cases h : i < 0
      · simp only [h, if_true] <;> lia
      · simp only [h, if_false] <;> lia
  · cases hi with
    | none => simp [sliceBounds, HT.sIx]
    | some i =>
      simp only [sliceBounds, HT.sIx, Option.getD_none, show (1 : Int) > 0 by decide, if_true]
      by_cases h : i < 0
      · simp only [h, if_true] <;> lia
      · simp only [h, if_false] <;> lia
theorem slicePick_cut (its : List Value) (lo hi : Option Int) : slicePick its.toArray lo hi none = ((its.drop (HT.sIx its.length 0 lo)).take (HT.sIx its.length its.length hi - HT.sIx its.length 0 lo)).toArray := by
  obtain ⟨h1, h2, h3⟩ := slice_bounds lo hi its.toArray.size
  unfold slicePick
  rw [h1, h2, h3]
  simp only [sliceRange_one, pick_run, List.size_toArray] <;> rfl
inductive rSlLP (K : PySem.W.Frag) (x : V) (lo : Option Int) (hi : Option Int) (H : Hp) (Q : VK) : Prop
  | mk (a : _) (xs : _) (h_0 : x = .ref a) (h_1 : SqL K H a xs) (h_2 : ∀ p, H p = none → Q (.ref p) (upd H p (.lst (cutV xs lo hi))))
noncomputable def rSlL (K : PySem.W.Frag) : V → Option Int → Option Int → Hp → VK → Prop := fun x lo hi H Q => rSlLP K x lo hi H Q
theorem sl_list : SlR X (rSlL X.K) := by
  intro pins s σ H x v vl vu lo hi sl Q I rx hs pl pu h
  obtain ⟨a, xs, rfl, hx, q⟩ := h
  cases rx
  obtain ⟨its, r, ht, hz⟩ := I.list hx
  have hlen := r.length
  refine ⟨"list", _, slot_list_getitem.lookup, ht.isList.typeIs, ?_⟩
  refine wpAny_getItem_list_slice ht.isList hs pl pu .none (by simp) ?_ (by rw [List.size_toArray] <;> lia)
  rw [slicePick_cut, ← hlen]
  refine ⟨.ref s.heap.objs.size, _, I.laid (t' := s.toks) (o := .lst (cutV xs lo hi)) (fun b ob q => Heap.get?_push_of_some _ q) (Nat.le_refl _) ?_, rfl, q _ (I.hok.fresh (Nat.le_refl _))⟩
  exact ⟨Nat.le_trans (cutV_length xs lo hi) hz, _, 0, (r.drop (HT.sIx xs.length 0 lo)).take (HT.sIx xs.length xs.length hi - HT.sIx xs.length 0 lo), Heap.get?_push_size _ rfl⟩

noncomputable def flatV : V → Bool
  | .non => true
  | .bl _ => true
  | .int _ => true
  | .str _ => true
  | _ => false
noncomputable def eqV : V → V → Bool
  | .non, .non => true
  | .bl a, .bl b => a == b
  | .bl a, .int b => (if a then 1 else 0) == b
  | .int a, .bl b => a == (if b then 1 else 0)
  | .int a, .int b => a == b
  | .str a, .str b => a == b
  | _, _ => false
theorem eqAt_V {A : Around} {s : Shared} {y x : V} {u v : Value} (ry : RelV y u) (rx : RelV x v) (fy : flatV y = true) (fx : flatV x = true) : SeqAt.EqAt A s u v (eqV y x) := by
  cases y with
  | non =>
    cases ry
    cases x with
    | non => cases rx; exact SeqAt.EqAt.same _
    | bl b => cases rx; exact SeqAt.EqAt.none_bool b
    | int b => obtain ⟨t, rfl⟩ := rx; exact SeqAt.EqAt.none_int b t
    | str b => obtain ⟨t, rfl⟩ := rx; exact SeqAt.EqAt.none_str b t
    | _ => exact absurd (show false = true from fx) Bool.false_ne_true
  | bl a =>
    cases ry
    cases x with
    | non => cases rx; exact SeqAt.EqAt.bool_none a
    | bl b => cases rx; exact SeqAt.EqAt.bool_bool a b
    | int b => obtain ⟨t, rfl⟩ := rx; exact SeqAt.EqAt.bool_int a b t
    | str b => obtain ⟨t, rfl⟩ := rx; exact SeqAt.EqAt.bool_str a b t
    | _ => exact absurd (show false = true from fx) Bool.false_ne_true
  | int a =>
    obtain ⟨t', rfl⟩ := ry
    cases x with
    | non => cases rx; exact SeqAt.EqAt.int_none a t'
    | bl b => cases rx; exact SeqAt.EqAt.int_bool a t' b
    | int b => obtain ⟨t, rfl⟩ := rx; exact SeqAt.EqAt.int_int a t' b t
    | str b => obtain ⟨t, rfl⟩ := rx; exact SeqAt.EqAt.int_str a t' b t
    | _ => exact absurd (show false = true from fx) Bool.false_ne_true
  | str a =>
    obtain ⟨t', rfl⟩ := ry
    cases x with
    | non => cases rx; exact SeqAt.EqAt.str_none a t'
    | bl b => cases rx; exact SeqAt.EqAt.str_bool a t' b
    | int b => obtain ⟨t, rfl⟩ := rx; exact SeqAt.EqAt.str_int a t' b t
    | str b => obtain ⟨t, rfl⟩ := rx; exact SeqAt.EqAt.str_str a t' b t
    | _ => exact absurd (show false = true from fx) Bool.false_ne_true
  | _ => exact absurd (show false = true from fy) Bool.false_ne_true
noncomputable def eqU (x : V) (u : Value) : Bool := match u with
  | .none => eqV .non x
  | .bool b => eqV (.bl b) x
  | .int i _ => eqV (.int i) x
  | .str z _ => eqV (.str z) x
  | _ => false
theorem eqU_of {x y : V} {u : Value} (r : RelV y u) (f : flatV y = true) : eqU x u = eqV y x := by
  cases y with
  | non => cases r; rfl
  | bl b => cases r; rfl
  | int i => obtain ⟨t, rfl⟩ := r; rfl
  | str z => obtain ⟨t, rfl⟩ := r; rfl
  | _ => exact absurd (show false = true from f) Bool.false_ne_true
theorem any_eqU {x : V} : ∀ {xs : List V} {us : List Value}, Vals xs us → xs.all flatV = true → us.any (eqU x) = xs.any fun y => eqV y x
  | _, _, .nil, _ => rfl
  | y :: xs, u :: us, .cons r t, f => by
    rw [List.all_cons, Bool.and_eq_true] at f
    rw [List.any_cons, List.any_cons, eqU_of r f.1, any_eqU t f.2]
theorem mem_eqAt {A : Around} {s : Shared} {x : V} {v : Value} (rx : RelV x v) (fx : flatV x = true) : ∀ {xs : List V} {us : List Value}, Vals xs us → xs.all flatV = true → ∀ u ∈ us, SeqAt.EqAt A s u v (eqU x u)
  | _, _, .nil, _ => fun u hu => by cases hu
  | y :: xs, u :: us, .cons r t, f => fun u' hu => by
    rw [List.all_cons, Bool.and_eq_true] at f
    rcases List.mem_cons.mp hu with rfl | hu
    · rw [eqU_of r f.1]; exact eqAt_V r rx f.1 fx
    · exact mem_eqAt rx fx t f.2 u' hu
noncomputable def inV (x : V) (xs : List V) : Bool := xs.any fun y => eqV y x
inductive rInP (K : PySem.W.Frag) (neg : Bool) (x : V) (y : V) (H : Hp) (Q : VK) : Prop
  | mk (p : _) (xs : _) (h_0 : y = .ref p) (h_1 : (SqL K H p xs ∨ SqT K H p xs)) (h_2 : flatV x = true) (h_3 : xs.all flatV = true) (h_4 : Q (.bl (if neg then !inV x xs else inV x xs)) H)
noncomputable def rIn (K : PySem.W.Frag) (neg : Bool) : R2 := fun x y H Q => rInP K neg x y H Q
theorem op_notIn_seq : OpR X (compareOp .NotIn) (rIn X.K true) := by
  intro pins s σ H x y v u Q I rx ry h
  obtain ⟨p, xs, rfl, hq, fx, fs, q⟩ := h
  cases ry
  rcases hq with hq | hq
  · obtain ⟨its, r, pl, hz⟩ := I.list hq
    refine SeqAt.notIn_listAt (eqU x) pl.isList (fun w hw => mem_eqAt rx fx r fs w (by simpa using hw)) ⟨.bl _, H, I, rfl, ?_⟩
    rw [show its.toArray.any (eqU x) = its.any (eqU x) by simp, any_eqU r fs]
    exact q
  · obtain ⟨its, r, pl, hz⟩ := I.tuple hq
    refine SeqAt.notIn_tupleAt (eqU x) pl (fun w hw => mem_eqAt rx fx r fs w (by simpa using hw)) ⟨.bl _, H, I, rfl, ?_⟩
    rw [show its.toArray.any (eqU x) = its.any (eqU x) by simp, any_eqU r fs]
    exact q
theorem op_notIn_str : OpR X (compareOp .NotIn) (fun x y H Q => ∃ i j, x = .str i ∧ y = .str j ∧ Q (.bl (!(!(Builtin.Str.occurrences j i 0 j.length 1).isEmpty))) H) := by
  intro pins s σ H x y v u Q I rx ry h
  obtain ⟨i, j, rfl, rfl, q⟩ := h
  obtain ⟨t, rfl⟩ := rx
  obtain ⟨t', rfl⟩ := ry
  exact notIn_str ⟨.bl _, H, I, rfl, q⟩

theorem call_len_seq : CallR X (.builtin "len") (fun xs H Q => ∃ p ys, xs = [.ref p] ∧ (SqL X.K H p ys ∨ SqT X.K H p ys) ∧ Q (.int ys.length) H) := by
  intro pins s σ H xs us Q I r h
  obtain ⟨p, ys, rfl, hq, q⟩ := h
  obtain ⟨u, rfl, rx⟩ := vals1 r
  cases rx
  have hn := line63
  rcases hq with hq | hq
  · obtain ⟨its, r', pl, hz⟩ := I.list hq
    have hlen := r'.length
    exact Calls.call_len_list pl.isList (by simp only [List.size_toArray] <;> lia) ⟨.int ys.length, H, I.tok _, ⟨s.toks + 1, by rw [List.size_toArray, hlen]⟩, q⟩
  · obtain ⟨its, r', pl, hz⟩ := I.tuple hq
    have hlen := r'.length
    exact len_tuple pl (by simp only [List.size_toArray] <;> lia) ⟨.int ys.length, H, I.tok _, ⟨s.toks + 1, by rw [List.size_toArray, hlen]⟩, q⟩
theorem call_len_str : CallR X (.builtin "len") (fun xs H Q => ∃ z, xs = [.str z] ∧ z.length ≤ sizeLine ∧ Q (.int z.length) H) := by
  intro pins s σ H xs us Q I r h
  obtain ⟨z, rfl, hz, q⟩ := h
  obtain ⟨u, rfl, t, rfl⟩ := vals1 r
  have hn := line63
  exact len_str (by lia) ⟨.int z.length, H, I.tok _, ⟨_, rfl⟩, q⟩
theorem call_list_of : CallR X (.type "list") (fun xs H Q => ∃ p ys, xs = [.ref p] ∧ (SqL X.K H p ys ∨ SqT X.K H p ys) ∧ ∀ l, H l = none → Q (.ref l) (upd H l (.lst ys))) := by
  intro pins s σ H xs us Q I r h
  obtain ⟨p, ys, rfl, hq, q⟩ := h
  obtain ⟨u, rfl, rx⟩ := vals1 r
  cases rx
  have fin : ∀ (its : List Value), Vals ys its → ys.length ≤ sizeLine → ∀ (h' : Heap) (c' : Nat), (∀ b o', s.heap.get? b = some o' → h'.get? b = some o') →
      h'.get? s.heap.objs.size = some { cls := .type "list", dict := none, data := .seq its.toArray c', slots := #[] } → EP X pins σ Q (.ref s.heap.objs.size) { s with heap := h' } := fun its r' hz h' c' kp e =>
    ⟨.ref s.heap.objs.size, _, I.laid (t' := s.toks) kp (Nat.le_refl _) (show ObjOk X.prog X.w _ h' _ (.lst ys) from ⟨hz, its, c', r', e⟩), rfl, q _ (I.hok.fresh (Nat.le_refl _))⟩
  rcases hq with hq | hq
  · obtain ⟨its, r', pl, hz⟩ := I.list hq
    have hlen := r'.length
    obtain ⟨o, ho, hc, n, hd⟩ := pl.isList
    exact call_list_seq p (.inl rfl) ho hc hd (fun h' c' kp e => fin its r' hz h' c' kp e) (by simp only [List.size_toArray] <;> lia)
  · obtain ⟨its, r', pl, hz⟩ := I.tuple hq
    have hlen := r'.length
    obtain ⟨o, ho, hc, n, hd⟩ := pl
    exact call_list_seq p (.inr rfl) ho hc hd (fun h' c' kp e => fin its r' hz h' c' kp e) (by simp only [List.size_toArray] <;> lia)

noncomputable def tyV (K : PySem.W.Frag) (T : String) (x : V) (H : Hp) : Prop := match x with
  | .str _ => T = "str"
  | .int _ => T = "int"
  | .ref p => (T = "list" ∧ ∃ xs, SqL K H p xs) ∨ (T = "tuple" ∧ ∃ o, K.lookup p = some o ∧ o.cls = .type "tuple" ∧ o.dict = none) ∨
      (T = "dict" ∧ ((∃ kvs, H p = some (.dK kvs)) ∨ ∃ kvs, H p = some (.dT kvs))) ∨ (T = "set" ∧ ∃ S n, H p = some (.set S n))
  | _ => False
theorem tyV_is {pins : List (Addr × Obj)} {σ : St} {H : Hp} {s : Shared} {T : String} {x : V} {v : Value} (I : Inv X pins σ H s) (r : RelV x v) (ty : tyV X.K T x H) :
    s.TypeIs v T ∧ ∀ a, v = .ref a → ∃ ob, s.heap.get? a = some ob ∧ ob.dict = none := by
  cases x with
  | str z =>
    obtain ⟨t, rfl⟩ := r
    cases (show T = "str" from ty)
    exact ⟨typeIs_str s z t, fun _ e => nomatch e⟩
  | int i =>
    obtain ⟨t, rfl⟩ := r
    cases (show T = "int" from ty)
    exact ⟨typeIs_int s i t, fun _ e => nomatch e⟩
  | ref p =>
    cases r
    rcases ty with ⟨rfl, xs, hq⟩ | ⟨rfl, o, hk, hc, hd⟩ | ⟨rfl, hk⟩ | ⟨rfl, S, n, hk⟩
    · obtain ⟨its, _, pl, _⟩ := I.list hq
      refine ⟨pl.isList.typeIs, fun a e => ?_⟩
      cases e
      obtain ⟨o, n, e, c, hd, _⟩ := pl
      exact ⟨o, e, hd⟩
    · refine ⟨⟨o, I.kIn p o hk, hc⟩, fun a e => ?_⟩
      cases e
      exact ⟨o, I.kIn _ o hk, hd⟩
    · have z : ∃ o, s.heap.get? p = some o ∧ o.ExactDict := by
        rcases hk with ⟨kvs, hk⟩ | ⟨kvs, hk⟩
        · obtain ⟨_, _, _, _, o, _, _, e, ex, _⟩ := I.hok p _ hk
          exact ⟨o, e, ex⟩
        · obtain ⟨_, _, _, _, o, _, _, e, ex, _⟩ := I.hok p _ hk
          exact ⟨o, e, ex⟩
      obtain ⟨o, e, ex⟩ := z
      refine ⟨⟨o, e, ex.1⟩, fun a e2 => ?_⟩
      cases e2
      exact ⟨o, e, ex.2.1⟩
    · obtain ⟨o, _, _, _, e, ex, _⟩ := I.hok p _ hk
      refine ⟨⟨o, e, ex.1⟩, fun a e2 => ?_⟩
      cases e2
      exact ⟨o, e, ex.2.1⟩
  | _ => exact False.elim ty
noncomputable def tBM (K : PySem.W.Frag) (T : String) (r : V → List V → Hp → VK → Prop) (to : TE) (t : TA) : TE := fun σ H Q => to σ H fun x H1 => tyV K T x H1 ∧ t σ H1 fun xs H2 => r x xs H2 Q
variable {o e : Expr} {es : List Expr} {to : TE} {t : TA} {name : Str} {apos cpos : Pos} {T id : String} {r : V → List V → Hp → VK → Prop}
theorem pe_bm (pa : PlainAttrs T) (slot : Slot T name id) (hty : typeOf (.builtin id) = pure (.type "method_descriptor")) (hm : MtR X id r) (ho : PE X o to) (ha : PA X (e :: es) t)
    (hbase : attributeBase o name X.env (eval o X.env) = eval o X.env := by rfl)
    (hfew : ((backTo cpos (starEach (e :: es) X.env)).all (fun x => !x.1) && (backToKw cpos (keywordEach [] X.env)).all (fun x => x.1.isSome)
      && decide ((e :: es).length + ([] : List Keyword).length + (if ([] : List Keyword).isEmpty then 0 else 1) < 30)) = true := by rfl)
    (hline : (apos.endLine == cpos.line) = true := by rfl) (hs : starEach (e :: es) X.env = (false, eval e X.env) :: starEach es X.env := by rfl) (hplain : (backTo cpos (starEach es X.env)).any (·.1) = false := by rfl) :
    PE X (.Call (.Attribute o name apos) (e :: es) [] cpos) (tBM X.K T r to t) := by
  intro pins s σ H Q I h
  refine wpAny_Call_method_late hbase hfew hline rfl (thn (ho pins s σ H _ I h) fun v s1 z_ => ?_)
  obtain ⟨x, H1, I1, r1, ty, q1⟩ := z_
  obtain ⟨h1, h2⟩ := tyV_is I1 r1 ty
  refine ⟨T, id, pa, slot, hty, h1, h2, ?_⟩
  have hA := ha cpos pins s1 σ H1 _ I1 q1
  rw [hs] at hA ⊢
  refine Calls.callWith_builtin (by show (false || (backTo cpos (starEach es X.env)).any (·.1)) = false; rw [hplain] <;> rfl) (Calls.evalArgs_plain ?_)
  exact thn hA fun us s2 ⟨vs, H2, I2, r2, q2⟩ => hm pins s2 σ H2 x vs v us Q I2 r1 r2 q2
/- xs.append(e), list.index on a module's tuple .. are MtR facts of 06m -/
end
end L2

namespace L2
open PySem PySem.Spec PyProof.Rows

noncomputable def MtM (X : Cx) (id : String) (r : V → List V → Hp → VK → Prop) : Prop :=
  ∀ (pins : List (Addr × Obj)) (s : Shared) (σ : St) (H : Hp) (x : V) (xs : List V) (v : Value) (us : List Value) (Q : VK), Inv X pins σ H s → RelV x v → Vals xs us → r x xs H Q →
    wpAny (model X.prog X.w) X.A (call (.builtin id) (v :: us)) (EP X pins σ Q) X.xe s

theorem Vals.one {x : V} {us : List Value} (h : Vals [x] us) : ∃ u, us = [u] ∧ RelV x u := by
  cases h with
  | cons r t => cases t; exact ⟨_, rfl, r⟩
theorem Vals.reverse {xs : List V} {us : List Value} (h : Vals xs us) : Vals xs.reverse us.reverse := by
  induction h with
  | nil => exact .nil
  | cons r t ih => rw [List.reverse_cons, List.reverse_cons]; exact Vals.append ih (.cons r .nil)

section
variable {X : Cx} {pins : List (Addr × Obj)} {σ : St} {H : Hp} {s : Shared} {l b : Addr} {xs ys zs : List V}

theorem Inv.lset {its its' : List Value} {n : Nat} {f : Array Value → Array Value} {t' : Nat} (I : Inv X pins σ H s) (hH : H l = some (.lst xs))
    (e : s.heap.get? l = some { cls := .type "list", data := .seq its.toArray n }) (hf : f its.toArray = its'.toArray) (hv : Vals ys its') (hz : ys.length ≤ sizeLine) :
    Inv X pins σ (upd H l (.lst ys)) { s with heap := s.heap.update l (Obj.mapSeq f), toks := t' } := by
  have q := PySem.IsL.update e f
  rw [hf] at q
  refine I.write (x := l) (e := l) (by rw [hH]; exact trivial) (.inl rfl) (fun b' u hb hu => (Heap.get?_update_other s.heap (Obj.mapSeq f) (Ne.symm hb)).trans hu) ⟨_, q⟩ ?_
  exact ⟨hz, its', _, hv, q⟩
theorem Inv.lnew {its : List Value} {t' : Nat} (I : Inv X pins σ H s) (hv : Vals ys its) (hz : ys.length ≤ sizeLine) :
    Inv X pins σ (upd H s.heap.objs.size (.lst ys)) { s with heap := s.heap.push { cls := .type "list", data := .seq its.toArray }, toks := t' } :=
  I.laid (fun _ _ q => Heap.get?_push_of_some _ q) (Nat.le_refl _) ⟨hz, its, 0, hv, Heap.get?_push_size _ rfl⟩
theorem Inv.fresh (I : Inv X pins σ H s) : H s.heap.objs.size = none := I.hok.fresh (Nat.le_refl _)
theorem Inv.lstM (I : Inv X pins σ H s) (hH : H l = some (.lst xs)) : xs.length ≤ sizeLine ∧ ∃ (its : List Value) (n : Nat), Vals xs its ∧ xs.length = its.length ∧ s.heap.get? l = some { cls := .type "list", data := .seq its.toArray n } := by
  obtain ⟨z, its, n, r, e⟩ := I.hok l _ hH
  exact ⟨z, its, n, r, r.length, e⟩

end

section
variable {X : Cx}

inductive rAppendP (x : V) (vs : List V) (H : Hp) (Q : VK) : Prop
  | mk (l : _) (xs : _) (y : _) (h_0 : x = .ref l) (h_1 : vs = [y]) (h_2 : H l = some (.lst xs)) (h_3 : xs.length < sizeLine) (h_4 : Q .non (upd H l (.lst (xs ++ [y]))))
noncomputable def rAppend : V → List V → Hp → VK → Prop := fun x vs H Q => rAppendP x vs H Q
theorem mt_append : MtM X "list.append" rAppend := by
  intro pins s σ H x vs v us Q I rx rv h
  obtain ⟨l, xs, y, rfl, rfl, hH, hz, q⟩ := h
  cases rx
  obtain ⟨u, rfl, ru⟩ := rv.one
  obtain ⟨z, its, n, r, hl, e⟩ := I.lstM hH
  refine call_meets F.slot_list_append ⟨_, e, rfl⟩ F.entry_list_append (F.args_list_append_2 _ _) (PySem.list_append l its.toArray n u (by rw [List.size_toArray]; lia)) ⟨e, ?_⟩
  refine ⟨.non, _, I.lset (its' := its ++ [u]) hH e (by simp) (r.append (.cons ru .nil)) ?_, rfl, q⟩
  rw [List.length_append, List.length_singleton]
  lia






inductive rCatP (x : V) (y : V) (H : Hp) (Q : VK) : Prop
  | mk (l : _) (b : _) (xs : _) (zs : _) (h_0 : x = .ref l) (h_1 : y = .ref b) (h_2 : H l = some (.lst xs)) (h_3 : H b = some (.lst zs)) (h_4 : xs.length + zs.length ≤ sizeLine) (h_5 : ∀ p, H p = none → Q (.ref p) (upd H p (.lst (xs ++ zs))))
noncomputable def rCat : R2 := fun x y H Q => rCatP x y H Q
theorem op_cat : OpR X (binaryOp .Add) rCat := by
  intro pins s σ H x y v u Q I rx ry h
  obtain ⟨l, b, xs, zs, rfl, rfl, hH, hB, hz, q⟩ := h
  cases rx
  cases ry
  obtain ⟨z, its, n, r, hl, e⟩ := I.lstM hH
  obtain ⟨z2, its2, n2, r2, hl2, e2⟩ := I.lstM hB
  refine PySem.P.add_list e e2 ?_ (by rw [List.size_toArray, List.size_toArray]; lia)
  have ea : its.toArray ++ its2.toArray = (its ++ its2).toArray := by simp
  rw [ea]
  exact ⟨.ref _, _, I.lnew (t' := s.toks) (r.append r2) (by rw [List.length_append]; lia), rfl, q _ I.fresh⟩

end

section
variable {prog : Program} {w : World} {A : Around} {E : Value → Shared → Prop} {s : Shared}
set_option maxRecDepth 100000 in
end

section
variable {X : Cx}
end
end L2

namespace L2
open PySem PySem.Spec PyProof.Rows

section
variable {κ : Type} [DecidableEq κ]
noncomputable def valV (kvs : List (κ × V)) (k : κ) : Option V := (kvs.find? fun kv => decide (kv.1 = k)).map (·.2)
noncomputable def putK (kvs : List (κ × V)) (k : κ) (v : V) : List (κ × V) :=
  if (kvs.any fun kv => decide (kv.1 = k)) = true then kvs.map (fun kv => if kv.1 = k then (kv.1, v) else kv) else kvs ++ [(k, v)]

theorem valV_pos {p : κ × V} {r : List (κ × V)} {k : κ} (e : p.1 = k) : valV (p :: r) k = some p.2 := by simp [valV, List.find?_cons, e]
theorem valV_neg {p : κ × V} {r : List (κ × V)} {k : κ} (e : ¬ p.1 = k) : valV (p :: r) k = valV r k := by simp [valV, List.find?_cons, e]
theorem valV_any (k : κ) : ∀ kvs : List (κ × V), (kvs.any fun kv => decide (kv.1 = k)) = (valV kvs k).isSome
  | [] => rfl
  | p :: r => by
    rw [List.any_cons]
    by_cases e : p.1 = k
    · simp only [valV_pos e, decide_eq_true e, Bool.true_or, Option.isSome_some]
    · rw [valV_neg e, decide_eq_false e, Bool.false_or]; exact valV_any k r
theorem length_putK (kvs : List (κ × V)) (k : κ) (v : V) : (putK kvs k v).length ≤ kvs.length + 1 := by
  unfold putK
  split
  · rw [List.length_map]; lia
  · rw [List.length_append, List.length_cons, List.length_nil]; lia
theorem putK_new {kvs : List (κ × V)} {k : κ} (v : V) (h : valV kvs k = none) : putK kvs k v = kvs ++ [(k, v)] := by
  unfold putK
  rw [valV_any, h]
  exact if_neg (by decide)

theorem RelO.isSome_eq {o : Option V} {u : Option Value} (r : RelO o u) : o.isSome = u.isSome := by
  cases o with
  | none => cases u with
    | none => rfl
    | some _ => exact (show False from r).elim
  | some _ => cases u with
    | none => exact (show False from r).elim
    | some _ => rfl

theorem KV.val {kvs : List (κ × V)} {vs : List (κ × Value)} (r : KV kvs vs) (k : κ) : RelO (valV kvs k) (valueAt vs k) := by
  unfold KV at r
  induction r with
  | nil => exact True.intro
  | @cons p q ps qs h t ih =>
    obtain ⟨h1, h2⟩ := h
    by_cases e : p.1 = k
    · have e' : q.1 = k := h1.symm.trans e
      have b : valueAt (q :: qs) k = some q.2 := by simp [valueAt, List.find?_cons, e']
      rw [valV_pos e, b]; exact h2
    · have e' : ¬ q.1 = k := fun z => e (h1.trans z)
      have b : valueAt (q :: qs) k = valueAt qs k := by simp [valueAt, List.find?_cons, e']
      rw [valV_neg e, b]; exact ih
theorem KV.any {kvs : List (κ × V)} {vs : List (κ × Value)} (r : KV kvs vs) (k : κ) : (kvs.any fun kv => decide (kv.1 = k)) = vs.any fun kv => decide (kv.1 = k) := by
  unfold KV at r
  induction r with
  | nil => rfl
  | cons h t ih => rw [List.any_cons, List.any_cons, ih, h.1]
theorem KV.repl {kvs : List (κ × V)} {vs : List (κ × Value)} (r : KV kvs vs) (k : κ) {y : V} {u : Value} (ry : RelV y u) :
    KV (kvs.map fun kv => if kv.1 = k then (kv.1, y) else kv) (vs.map fun kv => if kv.1 = k then (kv.1, u) else kv) := by
  unfold KV at r ⊢
  induction r with
  | nil => exact .nil
  | @cons p q ps qs h t ih =>
    rw [List.map_cons, List.map_cons]
    refine .cons ?_ ih
    obtain ⟨h1, h2⟩ := h
    by_cases e : p.1 = k
    · rw [if_pos e, if_pos (h1.symm.trans e)]; exact ⟨h1, ry⟩
    · rw [if_neg e, if_neg (fun z => e (h1.trans z))]; exact ⟨h1, h2⟩
theorem KV.put {kvs : List (κ × V)} {vs : List (κ × Value)} (r : KV kvs vs) (k : κ) {y : V} {u : Value} (ry : RelV y u) : KV (putK kvs k y) (stored vs k u) := by
  unfold putK stored
  rw [r.any k]
  by_cases e : (vs.any fun kv => decide (kv.1 = k)) = true
  · rw [if_pos e, if_pos e]; exact r.repl k ry
  · rw [if_neg e, if_neg e]; exact Paired.snoc r ⟨rfl, ry⟩
theorem KV.length {kvs : List (κ × V)} {vs : List (κ × Value)} (r : KV kvs vs) : kvs.length = vs.length := Paired.length r
end


theorem kV_is {P : Program} {w : World} {k : Key} {u : Value} (r : RelV (kV k) u) : (mixKind P w).is k u = true := by
  cases k with
  | inl i => obtain ⟨t, e⟩ := (show ∃ t, u = Value.int i t from r); subst e; exact mixKind_int P w i t
  | inr x => obtain ⟨t, e⟩ := (show ∃ t, u = Value.str x t from r); subst e; exact mixKind_str P w x t
theorem items_are {P : Program} {w : World} : ∀ {ks : List Key} {us : List Value}, Vals (ks.map kV) us → ItemsAre (mixKind P w) ks us
  | [], _, r => by rw [List.map_nil] at r; cases r; exact .nil
  | k :: ks, _, r => by
    rw [List.map_cons] at r
    cases r with
    | cons h t => exact .cons (kV_is h) (items_are t)

noncomputable abbrev KT (H : Hp) : List (List Key × V) → List (List Key × Addr × Value) → Prop := Paired fun p q => p.1 = q.1 ∧ H q.2.1 = some (.tup (p.1.map kV)) ∧ RelV p.2 q.2.2
theorem KT.val {H : Hp} {kvs : List (List Key × V)} {xs : List (List Key × Addr × Value)} (r : KT H kvs xs) (k : List Key) : RelO (valV kvs k) ((atKey xs k).map (·.2)) := by
  induction r with
  | nil => exact True.intro
  | @cons p q ps qs h t ih =>
    obtain ⟨h1, _, h2⟩ := h
    by_cases e : p.1 = k
    · have e' : q.1 = k := h1.symm.trans e
      have b : atKey (q :: qs) k = some q.2 := by simp [atKey, List.find?_cons, e']
      rw [valV_pos e, b]; exact h2
    · have e' : ¬ q.1 = k := fun z => e (h1.trans z)
      have b : atKey (q :: qs) k = atKey qs k := by simp [atKey, List.find?_cons, e']
      rw [valV_neg e, b]; exact ih
theorem KT.repl {H : Hp} {kvs : List (List Key × V)} {xs : List (List Key × Addr × Value)} (r : KT H kvs xs) (k : List Key) {y : V} {u : Value} (ry : RelV y u) :
    KT H (kvs.map fun kv => if kv.1 = k then (kv.1, y) else kv) (xs.map (putAt k u)) := by
  induction r with
  | nil => exact .nil
  | @cons p q ps qs h t ih =>
    rw [List.map_cons, List.map_cons]
    refine .cons ?_ ih
    obtain ⟨h1, h2, h3⟩ := h
    unfold putAt
    by_cases e : p.1 = k
    · rw [if_pos e, if_pos (h1.symm.trans e)]; exact ⟨h1, h2, ry⟩
    · rw [if_neg e, if_neg (fun z => e (h1.trans z))]; exact ⟨h1, h2, h3⟩
theorem KT.put {H : Hp} {kvs : List (List Key × V)} {xs : List (List Key × Addr × Value)} (r : KT H kvs xs) (k : List Key) {b : Addr} {y : V} {u : Value} (hb : H b = some (.tup (k.map kV))) (ry : RelV y u) :
    KT H (putK kvs k y) (storedH xs k b u) := by
  have e : (kvs.any fun kv => decide (kv.1 = k)) = (atKey xs k).isSome := by
    rw [valV_any, (r.val k).isSome_eq, Option.isSome_map]
  unfold putK storedH
  rw [e]
  by_cases q : (atKey xs k).isSome = true
  · rw [if_pos q, if_pos q]; exact r.repl k ry
  · rw [if_neg q, if_neg q]; exact Paired.snoc r ⟨rfl, hb, ry⟩
theorem KT.keeps {H H' : Hp} {kvs : List (List Key × V)} {xs : List (List Key × Addr × Value)} (r : KT H kvs xs) (ht : ∀ b ys, H b = some (.tup ys) → H' b = some (.tup ys)) : KT H' kvs xs :=
  Paired.mapP r fun _ _ z => ⟨z.1, ht _ _ z.2.1, z.2.2⟩

section
variable {P : Program} {w : World} {H : Hp} {h : Heap} {a : Addr}
theorem rd_of {u : HO} (ok : HOk P w H h) (e : Rd H a u) : ObjOk P w H h a u := e.ok ok
theorem dk_rd {kvs : List (Key × V)} (ok : HOk P w H h) (e : Rd H a (.dK kvs)) : kvs.length ≤ sizeLine ∧ (a == sysModules) = false ∧ ∃ vs, KV kvs vs ∧ h.DictOf (mixKind P w) a vs :=
  show ObjOk P w H h a (.dK kvs) from rd_of ok e
theorem dk_of {kvs : List (Key × V)} (ok : HOk P w H h) (e : H a = some (.dK kvs)) : kvs.length ≤ sizeLine ∧ (a == sysModules) = false ∧ ∃ vs, KV kvs vs ∧ h.DictOf (mixKind P w) a vs := dk_rd ok (.inl e)
theorem key_of {ks : List Key} (ok : HOk P w H h) (e : H a = some (.tup (ks.map kV))) : (tupleKind (mixKind P w)).is h ks a := by
  obtain ⟨_, its, r, o, h1, h2, n, h3⟩ := (show ObjOk P w H h a (.tup (ks.map kV)) from ok a _ e)
  exact ⟨o, its.toArray, n, h1, h2, h3, by simpa using items_are r⟩
theorem dt_rd {kvs : List (List Key × V)} (ok : HOk P w H h) (e : Rd H a (.dT kvs)) : kvs.length ≤ sizeLine ∧ (a == sysModules) = false ∧
    ∃ xs, KT H kvs xs ∧ h.DictOfH (tupleKind (mixKind P w)) a xs := by
  obtain ⟨z, y, xs, r, o, es, ep, h1, h2, h3, h4, h5⟩ := (show ObjOk P w H h a (.dT kvs) from rd_of ok e)
  refine ⟨z, y, xs, r, o, es, ep, h1, h2, h3, h4, fun x hx => ?_, h5⟩
  have all : ∀ {l : List (List Key × V)} {m : List (List Key × Addr × Value)}, KT H l m → ∀ x ∈ m, (tupleKind (mixKind P w)).is h x.1 x.2.1 := by
    intro l m q
    induction q with
    | nil => intro x hx; exact nomatch hx
    | @cons p q ps qs hq t ih =>
      intro x hx
      rcases List.mem_cons.mp hx with e | hx
      · subst e
        exact key_of ok (by rw [← hq.1]; exact hq.2.1)
      · exact ih x hx
  exact all r x hx
theorem dt_of {kvs : List (List Key × V)} (ok : HOk P w H h) (e : H a = some (.dT kvs)) : kvs.length ≤ sizeLine ∧ (a == sysModules) = false ∧
    ∃ xs, KT H kvs xs ∧ h.DictOfH (tupleKind (mixKind P w)) a xs := dt_rd ok (.inl e)
end

noncomputable def DGet (H : Hp) (a : Addr) (y : V) (r : Option V) : Prop :=
  (∃ kvs k, Rd H a (.dK kvs) ∧ y = kV k ∧ r = valV kvs k) ∨ ∃ kvs k b, Rd H a (.dT kvs) ∧ y = .ref b ∧ H b = some (.tup (k.map kV)) ∧ r = valV kvs k
noncomputable def DPut (H : Hp) (a : Addr) (y v : V) (H' : Hp) : Prop :=
  (∃ kvs k, H a = some (.dK kvs) ∧ y = kV k ∧ kvs.length < sizeLine ∧ H' = upd H a (.dK (putK kvs k v))) ∨
  ∃ kvs k b, H a = some (.dT kvs) ∧ y = .ref b ∧ H b = some (.tup (k.map kV)) ∧ kvs.length < sizeLine ∧ H' = upd H a (.dT (putK kvs k v))
theorem DGet.k {H : Hp} {a : Addr} {kvs : List (Key × V)} {k : Key} (e : H a = some (.dK kvs)) : DGet H a (kV k) (valV kvs k) := .inl ⟨kvs, k, .inl e, rfl, rfl⟩
theorem DPut.k {H : Hp} {a : Addr} {kvs : List (Key × V)} {k : Key} {v : V} (e : H a = some (.dK kvs)) (hl : kvs.length < sizeLine) : DPut H a (kV k) v (upd H a (.dK (putK kvs k v))) := .inl ⟨kvs, k, e, rfl, hl, rfl⟩


section
variable {X : Cx} {pins : List (Addr × Obj)} {σ : St} {H : Hp} {s : Shared} {a : Addr} {y v : V} {u r : Value} {o : Option V} {A : Around} {E : Value → Shared → Prop}

theorem Inv.big (I : Inv X pins σ H s) : sysModules < s.heap.objs.size := by
  have h : mainGlobals < s.heap.objs.size := (I.mod.glob.keeps I.bk).lt
  exact Nat.lt_trans (by decide) h

theorem d_getItem {Q : Value → Shared → Prop} (hu : A.units + 1 < cLine) (I : Inv X pins σ H s) (g : DGet H a y (some v)) (ry : RelV y u) (h : ∀ w' s', Inv X pins σ H s' → RelV v w' → Q w' s') :
    wpAny (model X.prog X.w) A (getItem (.ref a) u) Q E s := by
  rcases g with ⟨kvs, k, e, ey, l⟩ | ⟨kvs, k, b, e, ey, eb, l⟩
  · subst ey
    obtain ⟨z, hd, vs, rel, dd⟩ := dk_rd I.hok e
    obtain ⟨w', hw, rw'⟩ := RelO.some_of (v := v) (o := valueAt vs k) (by rw [l]; exact rel.val k)
    exact wpAny_getItem_of (kV_is ry) dd.mapOf hw (h w' _ (I.tok _) rw')
  · subst ey
    cases (show u = Value.ref b from ry)
    obtain ⟨z, hd, xs, rel, dd⟩ := dt_rd I.hok e
    obtain ⟨w', hw, rw'⟩ := RelO.some_of (v := v) (o := (atKey xs k).map (·.2)) (by rw [l]; exact rel.val k)
    obtain ⟨p, hp, hp2⟩ := Option.map_eq_some_iff.mp hw
    refine wpAny_getItem_heap (tupleKind_room_in1 hu) (key_of I.hok eb) dd hp ?_
    rw [hp2]
    exact h w' _ (I.tok _) rw'
theorem d_in {Q : Value → Shared → Prop} (hu : A.units + 1 < cLine) (I : Inv X pins σ H s) (g : DGet H a y o) (ry : RelV y u) (h : ∀ s', Inv X pins σ H s' → Q (.bool o.isSome) s') :
    wpAny (model X.prog X.w) A (compareOp .In u (.ref a)) Q E s := by
  rcases g with ⟨kvs, k, e, ey, l⟩ | ⟨kvs, k, b, e, ey, eb, l⟩
  · subst ey
    obtain ⟨z, hd, vs, rel, dd⟩ := dk_rd I.hok e
    refine wpAny_in_of (kV_is ry) hd dd.mapOf ?_
    rw [← (rel.val k).isSome_eq, ← l]
    exact h _ (I.tok _)
  · subst ey
    cases (show u = Value.ref b from ry)
    obtain ⟨z, hd, xs, rel, dd⟩ := dt_rd I.hok e
    refine wpAny_in_heap (tupleKind_room_in1 hu) (key_of I.hok eb) hd dd ?_
    have q := (rel.val k).isSome_eq
    rw [Option.isSome_map] at q
    rw [← q, ← l]
    exact h _ (I.tok _)
theorem d_notIn {Q : Value → Shared → Prop} (hu : A.units + 1 < cLine) (I : Inv X pins σ H s) (g : DGet H a y o) (ry : RelV y u) (h : ∀ s', Inv X pins σ H s' → Q (.bool (!o.isSome)) s') :
    wpAny (model X.prog X.w) A (compareOp .NotIn u (.ref a)) Q E s := by
  rcases g with ⟨kvs, k, e, ey, l⟩ | ⟨kvs, k, b, e, ey, eb, l⟩
  · subst ey
    obtain ⟨z, hd, vs, rel, dd⟩ := dk_rd I.hok e
    refine wpAny_notIn_of (kV_is ry) hd dd.mapOf ?_
    rw [← (rel.val k).isSome_eq, ← l]
    exact h _ (I.tok _)
  · subst ey
    cases (show u = Value.ref b from ry)
    obtain ⟨z, hd, xs, rel, dd⟩ := dt_rd I.hok e
    refine wpAny_notIn_heap (tupleKind_room_in1 hu) (key_of I.hok eb) hd dd ?_
    have q := (rel.val k).isSome_eq
    rw [Option.isSome_map] at q
    rw [← q, ← l]
    exact h _ (I.tok _)
theorem d_write {h' : Heap} {t' : Nat} {ob : HO} (I : Inv X pins σ H s) (mu : Mut (H a)) (hs : Heap.SameBut a s.heap h') (he : ∃ q, h'.get? a = some q) (new : ObjOk X.prog X.w (upd H a ob) h' a ob) :
    Inv X pins σ (upd H a ob) { s with heap := h', toks := t' } :=
  I.write (x := a) (e := a) mu (.inl rfl) (fun b q hb z => (hs.2 b hb).trans z) he new
theorem dk_new {P : Program} {w : World} {H' : Hp} {h' : Heap} {kvs : List (Key × V)} {vs : List (Key × Value)} (z : kvs.length ≤ sizeLine) (hd : (a == sysModules) = false) (rel : KV kvs vs) (dd : h'.DictOf (mixKind P w) a vs) :
    ObjOk P w H' h' a (.dK kvs) := ⟨z, hd, vs, rel, dd⟩
theorem d_setItem {H' : Hp} {Q : Unit → Shared → Prop} (hu : A.units + 1 < cLine) (I : Inv X pins σ H s) (g : DPut H a y v H') (ry : RelV y u) (rv : RelV v r) (h : ∀ s', Inv X pins σ H' s' → Q () s') :
    wpAny (model X.prog X.w) A (setItem (.ref a) u r) Q E s := by
  rcases g with ⟨kvs, k, e, ey, l, eH⟩ | ⟨kvs, k, b, e, ey, eb, l, eH⟩
  · subst ey eH
    obtain ⟨z, hd, vs, rel, dd⟩ := dk_of I.hok e
    have hz : vs.length ≤ sizeLine := by rw [← rel.length]; exact z
    have hl : (putK kvs k v).length ≤ sizeLine := by have := length_putK kvs k v; lia
    refine wpAny_setItem_pairs (hsz := hz) (kV_is ry) dd fun h' dd' hs => h _ ?_
    have he : ∃ q, h'.get? a = some q := let ⟨q, _, _, hq, _⟩ := dd'; ⟨q, hq⟩
    exact d_write I (by rw [e]; exact True.intro) hs he (dk_new hl hd (rel.put k rv) dd')
  · subst ey eH
    cases (show u = Value.ref b from ry)
    obtain ⟨z, hd, xs, rel, dd⟩ := dt_of I.hok e
    have hz : xs.length ≤ sizeLine := by rw [← Paired.length rel]; exact z
    have hl : (putK kvs k v).length ≤ sizeLine := by have := length_putK kvs k v; lia
    refine wpAny_setItem_heap (hsz := hz) (tupleKind_room_in1 hu) (key_of I.hok eb) dd fun h' dd' hs => h _ ?_
    obtain ⟨q, es, ep, hq, h2, h3, h4, _, h5⟩ := dd'
    refine d_write I (by rw [e]; exact True.intro) hs ⟨q, hq⟩ ⟨hl, hd, _, (rel.put k eb rv).keeps fun c ys ec => ?_, q, es, ep, hq, h2, h3, h4, h5⟩
    rw [upd_ne (ne_of ec e (fun z => nomatch z))]
    exact ec
end

section
variable {X : Cx} {pins : List (Addr × Obj)} {σ : St} {H : Hp} {s : Shared} {a : Addr} {kvs : List (Key × V)} {k : Key} {u : Value} {A : Around} {E : Value → Shared → Prop}
end


noncomputable def NoSl (i : Expr) : Prop := ∀ ov iv, subscripted i false ov iv = operate [ov, iv] (getItem ov iv)
theorem subD_of {prog : Program} {w : World} {A : Around} {E : Value → Shared → Prop} {s : Shared} {env : Env} {value slice : Expr} {pos : Pos} {T id : String} {Q : Value → Shared → Prop}
    (hl : typeLookup (.type T) "__getitem__" = pure (some (.builtin id))) (hs : NoSl slice)
    (h : wpAny (model prog w) A (eval value env) (fun o s₁ => wpAny (model prog w) A (eval slice env) (fun i s₂ => s₂.TypeIs o T ∧ wpAny (model prog w) A (getItem o i) Q E s₂) E s₁) E s) :
    wpAny (model prog w) A (eval (.Subscript value slice pos) env) Q E s := by
  refine Subscript_ (wpAny_mono h (fun o s₁ h₁ => wpAny_mono h₁ (fun i s₂ h₂ => ?_) fun _ _ x => x) fun _ _ x => x)
  obtain ⟨hT, h₂⟩ := h₂
  unfold subscriptTail
  refine wpAny_bind ?_
  rw [getitemInPython_of_ne hT.not_modules]
  refine wpAny_bind (wpAny_specialOf hT hl ?_)
  have fin : wpAny (model prog w) A (subscripted slice false o i) (fun r s₃ => wpAny (model prog w) A (letTemporaryGo value o r >>= fun _ => pure r) Q E s₃) E s₂ := by
    rw [hs o i]
    exact wpAny_operating (wpAny_mono h₂ (fun r s₃ h₃ => wpAny_bind (wpAny_letTemporaryGo (wpAny_pure h₃))) fun _ _ x => x)
  first
    | exact wpAny_pure (wpAny_bind fin)
    | exact wpAny_bind (wpAny_pure (wpAny_bind fin))
    | exact wpAny_bind fin

theorem dict_typeIs {X : Cx} {pins : List (Addr × Obj)} {σ : St} {H : Hp} {s : Shared} {a : Addr} {y : V} {o : Option V} (I : Inv X pins σ H s) (g : DGet H a y o) : s.TypeIs (.ref a) "dict" := by
  rcases g with ⟨kvs, k, e, _, _⟩ | ⟨kvs, k, b, e, _, _, _⟩
  · obtain ⟨_, _, vs, _, dd⟩ := dk_rd I.hok e
    exact dd.typeIs
  · obtain ⟨_, _, xs, _, dd⟩ := dt_rd I.hok e
    exact dd.typeIs

noncomputable def tDGet (td ty : TE) : TE := fun σ H Q => td σ H fun x H1 => ty σ H1 fun y H2 => ∃ a v, x = .ref a ∧ DGet H2 a y (some v) ∧ Q v H2
noncomputable def tDIn (ty td : TE) : TE := fun σ H Q => ty σ H fun y H1 => td σ H1 fun x H2 => ∃ a o, x = .ref a ∧ DGet H2 a y o ∧ Q (.bl o.isSome) H2
noncomputable def tDNotIn (ty td : TE) : TE := fun σ H Q => ty σ H fun y H1 => td σ H1 fun x H2 => ∃ a o, x = .ref a ∧ DGet H2 a y o ∧ Q (.bl (!o.isSome)) H2
noncomputable def sDPut (td ty tv : TE) : TS := fun D σ H => tv σ H fun v H1 => td σ H1 fun x H2 => ty σ H2 fun y H3 => ∃ a H4, x = .ref a ∧ DPut H3 a y v H4 ∧ D.nx σ H4

section
variable {X : Cx} {o i e value : Expr} {pos pos' tpos : Pos} {td ty tv : TE}
theorem pe_dget (hu : X.A.units + 1 < cLine) (ho : PE X o td) (hi : PE X i ty) (hs : NoSl i) : PE X (.Subscript o i pos) (tDGet td ty) := by
  intro pins s σ H Q I h
  refine subD_of PySem.F.slot_dict_getitem.lookup hs (thn (ho pins s σ H _ I h) fun u s1 ⟨x, H1, I1, rx, q1⟩ => thn (hi pins s1 σ H1 _ I1 q1) fun iv s2 z_ => ?_)
  obtain ⟨y, H2, I2, ry, a, v, ex, g, q2⟩ := z_
  subst ex
  obtain rfl : u = Value.ref a := rx
  exact ⟨dict_typeIs I2 g, d_getItem hu I2 g ry fun w' s3 I3 rw' => ⟨v, H2, I3, rw', q2⟩⟩
theorem pc_din (hu : X.A.units + 1 < cLine) (hi : PE X i ty) (ho : PE X o td) : PC X .In i o (tDIn ty td) := by
  intro pins s σ H Q I h
  refine thn (hi pins s σ H _ I h) fun iv s1 ⟨y, H1, I1, ry, q1⟩ => thn (ho pins s1 σ H1 _ I1 q1) fun u s2 z_ => ?_
  obtain ⟨x, H2, I2, rx, a, ov, ex, g, q2⟩ := z_
  subst ex
  obtain rfl : u = Value.ref a := rx
  exact d_in hu I2 g ry fun s3 I3 => ⟨.bl ov.isSome, H2, I3, rfl, q2⟩
theorem pc_dnotin (hu : X.A.units + 1 < cLine) (hi : PE X i ty) (ho : PE X o td) : PC X .NotIn i o (tDNotIn ty td) := by
  intro pins s σ H Q I h
  refine thn (hi pins s σ H _ I h) fun iv s1 ⟨y, H1, I1, ry, q1⟩ => thn (ho pins s1 σ H1 _ I1 q1) fun u s2 z_ => ?_
  obtain ⟨x, H2, I2, rx, a, ov, ex, g, q2⟩ := z_
  subst ex
  obtain rfl : u = Value.ref a := rx
  exact d_notIn hu I2 g ry fun s3 I3 => ⟨.bl (!ov.isSome), H2, I3, rfl, q2⟩
theorem ps_dput (hu : X.A.units + 1 < cLine) (ho : PE X o td) (hi : PE X i ty) (hv : PE X value tv) (hs : swapsWith value (some (.Subscript o i pos')) pos.line X.env = pure false) :
    PS X (.Assign [.Subscript o i pos'] value pos) (sDPut td ty tv) := by
  intro pins s σ H D I h
  refine wpAny_Assign_Subscript (thn (hv pins s σ H _ I h) fun r s1 ⟨v, H1, I1, rv, q1⟩ => thn (ho pins s1 σ H1 _ I1 q1) fun u s2 ⟨x, H2, I2, rx, q2⟩ => thn (hi pins s2 σ H2 _ I2 q2) fun iv s3 ⟨y, H3, I3, ry, a, H4, ex, g, q3⟩ => ?_) hs
  subst ex
  obtain rfl : u = Value.ref a := rx
  exact d_setItem hu I3 g ry rv fun s4 I4 => ⟨σ, H4, I4, q3⟩
end


theorem dk_empty {P : Program} {w : World} {H : Hp} (h : Heap) (hb : sysModules < h.objs.size) : ObjOk P w H (h.push { cls := .type "dict", data := .dict #[] }) h.objs.size (.dK []) :=
  ⟨Nat.zero_le _, beq_eq_false_iff_ne.mpr (Ne.symm (Nat.ne_of_lt hb)), [], .nil, Heap.DictOf.new h⟩
noncomputable def tDNewK : TE := fun _ H Q => ∀ p, H p = none → Q (.ref p) (upd H p (.dK []))
section
variable {X : Cx} {pos : Pos}
theorem pe_dnewK : PE X (.Dict [] [] pos) tDNewK := fun pins s σ H Q I h =>
  wpAny_Dict_empty ⟨.ref s.heap.objs.size, _, I.laid (a := s.heap.objs.size) (o := .dK []) (t' := s.toks) (fun _ _ q => Heap.get?_push_of_some _ q) (Nat.le_refl _) (dk_empty s.heap I.big), rfl, h _ (I.hok.fresh (Nat.le_refl _))⟩
end






section
variable {X : Cx} {pins : List (Addr × Obj)} {σ : St} {H : Hp} {s : Shared} {a : Addr} {y d : V} {u r : Value} {o : Option V} {A : Around} {E : Value → Shared → Prop}
end

section
variable {X : Cx} {o e f : Expr} {apos cpos : Pos} {td ty tx : TE}
end

section
variable {X : Cx} {pins : List (Addr × Obj)} {σ : St} {H : Hp} {s : Shared} {a : Addr} {kvs : List (Key × V)} {A : Around} {E : Value → Shared → Prop}
end


section
variable {X : Cx} {pins : List (Addr × Obj)} {σ : St} {H : Hp} {s : Shared} {a : Addr} {y : V} {u : Value} {A : Around} {E : Value → Shared → Prop}
end
end L2

namespace Att
open PySem PySem.W PySem.Calls PyProof.Rows

theorem ints_of_wellAll {P : Params} {h : Heap} : ∀ (ns : List Int) (vs : List Value), WellAll P h vs (ns.map WData.int) → IntsAre vs ns := by
  intro ns
  induction ns with
  | nil =>
    intro vs w
    rw [List.map_nil] at w
    cases w
    exact .nil
  | cons n ns ih =>
    intro vs w
    rw [List.map_cons] at w
    cases w with
    | cons a b =>
      cases a
      exact .cons _ _ (ih _ b)

theorem script_of {l : OpenLaw} {n : Nat} (hn : l.most = some n) {P : Params} {h : Heap} {args : List WData} {vals : List Value}
    (hpre : l.row.toRowW.claim.pre args = true) (hwl : WellAll P h vals args) :
    ∃ a vs ns, vals = [Value.ref a] ∧ args = [WData.list (ns.map WData.int)] ∧ h.get? a = some { cls := .type "list", data := .seq vs.toArray } ∧ IntsAre vs ns ∧ ns.length ≤ n := by
  have hsh : WShape.hasAll [] args [.list .int] = true := (pre_splitW hpre).1
  have hc : l.pre.holds [] { args := args } = true := (pre_splitW hpre).2
  obtain ⟨d, r, rfl, h1, h2⟩ := hasAllW_cons hsh
  obtain rfl := hasAllW_nil h2
  obtain ⟨xs, rfl, h3⟩ := hasW_list h1
  obtain ⟨ns, rfl⟩ := items_int h3
  have hlen : ns.length ≤ n := by
    unfold OpenLaw.pre at hc
    have h4 : (WTm.not (.lt (.lit (.int (n : Int))) (.len (.arg 0)))).holds [] { args := [.list (ns.map .int)] } = true := by
      have h4 := (holds_andW hc).1
      rw [hn] at h4
      exact h4
    have h5 := condW_of h4 (w_not (w_lt w_lit (w_len_list (w_arg rfl))))
    rw [List.length_map] at h5
    refine Nat.le_of_not_lt fun q => ?_
    have q' : (n : Int) < ((ns.length : Nat) : Int) := by lia
    first
      | (rw [decide_eq_true q'] at h5; exact absurd h5 (by decide))
      | (simp at h5; lia)
  cases hwl with
  | cons w1 w2 =>
    cases w2
    cases w1 with
    | list ho hall => exact ⟨_, _, ns, rfl, rfl, ho, ints_of_wellAll ns _ hall, hlen⟩

theorem post_true (l : OpenLaw) (args : List WData) : l.row.toRowW.claim.post args (.bool true) args = true :=
  postW_of (r := l.row.toRowW) (X := (true == true))
    (show WShape.has [] (.bool true) .bool = true by first | rfl | decide | simp [WShape.has, WShape.arms, WShape.armsAll])
    (show (WTm.eq .res (.lit (.bool true))).value [] { args := args, res := some (.bool true), after := args } = some (.bool (true == true)) from w_eq_bool (w_res rfl) w_lit) rfl


theorem attach_call {l : OpenLaw} {n : Nat} {q : Program} {loose : List Str} {XP : (Str → Option Value) → Heap → Prop} {YP : World → Heap → Prop} {d : DefRec}
    (hn : l.most = some n) (hdf : d.params.defaults = [])
    (call : ∀ (w : World) (s₀ s₁ : Shared) (mg mb : Str → Option Value) (fa : Addr) (o : Obj) (pm cd doc : Value) (a : Addr) (vs : List Value) (ns : List Int),
      Ground q loose [] XP w s₀ mg mb s₁.heap → YP w s₁.heap →
      s₁.heap.get? fa = some o → o.data = .func (docDef d.name d.params d.body d.scope pm cd doc) → s₁.heap.CodeRec cd d.name → mg d.name = some (.ref fa) →
      s₁.heap.get? a = some { cls := .type "list", data := .seq vs.toArray } → IntsAre vs ns → ns.length ≤ n → s₁.gens = #[] →
      codeAny (model l.prog w) callerA (.call (.ref fa) ⟨[.ref a], []⟩) (fun r s' => r = .ok (.ret (.bool true)) ∧ OldK s₁.heap s'.heap ∧ s'.os = s₁.os ∧ AllBare s'.gens) s₁) :
    WalkO q loose XP YP l.row.toRowW d [] (fun f vs => PySem.call f vs) := by
  intro w s₀ s₁ mg mb G Y fa o pm cd doc dV kV ho hd hcd hD hmg hg args vals as hpre hlay hrd hwl hlo
  obtain rfl : dV = .none := Dflts.none hD hdf
  obtain rfl : kV = .none := Dflts.noKw hD
  obtain ⟨a, vs, ns, rfl, rfl, hobj, hints, hlen⟩ := script_of hn hpre hwl
  refine enter_call (codeAny_mono (call w s₀ s₁ mg mb fa o pm cd doc a vs ns G Y ho (fd_plain hd) hcd hmg hobj hints hlen hg) fun r s' hq => ?_)
  obtain ⟨rfl, h2, h3, h4⟩ := hq
  exact ⟨.inl ⟨.bool true, .bool true, [], rfl, fun _ => rfl, .bool true, post_true l _, fun _ => ⟨List.Pairwise.nil, fun _ hm => (nomatch hm)⟩⟩, h2, h3, h4⟩


section
variable {prog : Program} {w : World} {A : Around} {E : Value → Shared → Prop} {s : Shared} {K : Frag}






end
end Att

namespace L2
open PySem PySem.Spec PyProof.Rows

theorem vals_ints : ∀ {vs : List Value} {ns : List Int}, IntsAre vs ns → Vals (ns.map V.int) vs
  | _, _, .nil => .nil
  | _, _, .cons n t h => .cons ⟨t, rfl⟩ (vals_ints h)

noncomputable def Only (H : Hp) : Prop := ∀ b, H b = none ∨ ∃ o xs, H b = some (.frz o (.lst xs))

theorem law_call {P : Program} {w : World} {K : PySem.W.Frag} {mg mb : Str → Option Value} {CX : CXT} {k : Nat} {fa a : Addr} {fd : FuncData} {x : Str} {sp : Sp} {s₁ : Shared} {vs : List Value} {ns : List Int}
    (KX : K.In s₁.heap) (hns : s₁.heap.Ns mainGlobals mg) (hb : s₁.heap.Ns builtinsNs mb) (hbb : ∀ x : Str, x ≠ "__name__" → mb x = bootBuiltins x) (hlim : s₁.heap.NoLimit) (hg : s₁.gens = #[])
    (ha : s₁.heap.get? a = some { cls := .type "list", data := .seq vs.toArray }) (hi : IntsAre vs ns) (hl : ns.length ≤ sizeLine) (hr : Room k callerA)
    (F : ∀ base : Heap, K.In base → base.Ns mainGlobals mg → FnOk P w K mg base CX k fa fd [x] sp) (hbind : ∀ (s : Shared) (u : Value), BindsTo s fd ⟨[u], []⟩ [(x, u)])
    (hsp : ∀ H : Hp, Only H → SqL K H a (ns.map V.int) → sp [.ref a] H (fun v _ => v = .bl true) fun _ _ _ => False)
    (hCX : ∀ H e s', CX [] H s₁ (fun _ _ _ => False) e s' → False) :
    codeAny (model P w) callerA (.call (.ref fa) ⟨[.ref a], []⟩) (fun r s' => r = .ok (.ret (.bool true)) ∧ OldK s₁.heap s'.heap ∧ s'.os = s₁.os ∧ AllBare s'.gens) s₁ := by
  have rv := vals_ints hi
  have lenV := hi.length
  -- from an abstract heap in which nothing but the script may be tracked
  have core : ∀ H : Hp, Only H → SqL K H a (ns.map V.int) → HOk P w H s₁.heap → (∀ b, H b ≠ none → b = a) → (H a ≠ none → K.lookup a = none) →
      codeAny (model P w) callerA (.call (.ref fa) ⟨[.ref a], []⟩) (fun r s' => r = .ok (.ret (.bool true)) ∧ OldK s₁.heap s'.heap ∧ s'.os = s₁.os ∧ AllBare s'.gens) s₁ := by
    intro H hO hS hok hA hK
    have base_of : ∀ {b : Addr} {o : Obj}, s₁.heap.get? b = some o → H b = none → (hidT s₁.heap H).get? b = some o := fun e n => hidT_get e n
    have noA : ∀ {b : Addr} {o : Obj} {es : Array DictEntry} {ep : Nat}, s₁.heap.get? b = some o → o.data = .dict es ep → H b = none := fun {b o es ep} e d => by
      cases q : H b with
      | none => rfl
      | some u =>
        have e' : b = a := hA b (by rw [q]; simp)
        subst e'
        rw [ha] at e; cases e
        have d' : Data.seq vs.toArray _ = Data.dict es ep := d
        cases d'
    have nsK : ∀ {b : Addr} {m : Str → Option Value}, s₁.heap.Ns b m → (hidT s₁.heap H).Ns b m := fun {b m} ⟨o, es, ep, e, d, r⟩ => ⟨o, es, ep, base_of e (noA e d), d, r⟩
    have hKb : K.In (hidT s₁.heap H) := fun b o e => base_of (KX b o e) (by
      cases q : H b with
      | none => rfl
      | some u =>
        have e' : b = a := hA b (by rw [q]; simp)
        subst e'
        rw [hK (by rw [q]; simp)] at e; cases e)
    have hM : Mod K mg (hidT s₁.heap H) := ⟨hKb, nsK hns, ⟨mb, nsK hb, hbb⟩, let ⟨mc, h1, h2⟩ := hlim; ⟨mc, nsK h1, h2⟩⟩
    have e0 : Env0 P w K mg (hidT s₁.heap H) callerA [] s₁ H := ⟨rfl, hM, fun b o e => of_hidT e, Nat.le_of_eq (hidT_size _ _), trivial, fun b hb => absurd (show b ∈ ([] : List Addr) from hb) (by simp), hok, .of_eq hg⟩
    refine codeAny_mono ((F _ hKb (nsK hns)).run callerA [] s₁ H ⟨[.ref a], []⟩ [.ref a] [.ref a] _ _ hr e0 (hbind s₁ (.ref a)) (.cons rfl .nil) (hsp H hO hS)) fun r s' h => ?_
    cases r with
    | error e => exact (hCX H e s' h).elim
    | ok fl =>
      cases fl with
      | next => exact False.elim h
      | brk => exact False.elim h
      | cont => exact False.elim h
      | ret u =>
        obtain ⟨v, H', os, bare, un, hok', r', q⟩ := h
        have q' : v = .bl true := q
        subst q'
        obtain rfl : u = Value.bool true := r'
        refine ⟨rfl, OldK.of_keep fun b o e => ?_, os, bare⟩
        cases q : H b with
        | none => exact un.keep b o e q (by intro z; exact absurd (show b ∈ ([] : List Addr) from z) (by simp)) (by simp)
        | some u =>
          rcases hO b with z | ⟨ob, xs, z⟩
          · rw [q] at z; cases z
          · have z2 := un.frzs b ob _ z
            obtain ⟨e1, _⟩ := hok b _ z
            obtain ⟨e2, _⟩ := hok' b _ z2
            rw [e] at e1; cases e1
            exact e2
  cases hk : K.lookup a with
  | some o =>
    -- the script is one of the module's own objects
    have e := KX a o hk
    rw [ha] at e
    cases e
    refine core (fun _ => none) (fun _ => .inl rfl) (.inr ⟨_, vs.toArray, _, hk, rfl, rfl, rfl, by rw [List.size_toArray, lenV]; exact hl, by simpa using rv⟩) (fun b u z => by have z' : (none : Option HO) = some u := z; cases z') (fun b z => absurd rfl z) fun z => absurd rfl z
  | none =>
    refine core (fun b => if b = a then some (.frz { cls := .type "list", data := .seq vs.toArray } (.lst (ns.map V.int))) else none) (fun b => ?_) (.inl (.inr ⟨{ cls := .type "list", data := .seq vs.toArray }, if_pos rfl⟩)) (fun b u z => ?_) (fun b z => ?_) fun _ => hk
    · by_cases hb : b = a
      · exact .inr ⟨_, _, if_pos hb⟩
      · exact .inl (if_neg hb)
    · by_cases hb : b = a
      · have z' := (if_pos hb).symm.trans z
        cases z'
        subst hb
        exact ⟨ha, by rw [List.length_map]; exact hl, vs, _, rv, ha⟩
      · have z' := (if_neg hb).symm.trans z
        cases z'
    · by_cases hb : b = a
      · exact hb
      · exact absurd (if_neg hb) z
end L2

namespace L2
open PySem PySem.Spec PyProof.Rows


theorem walk_of {l : PySem.W.OpenLaw} {n k : Nat} {q : Program} {loose : List Str} {XP : (Str → Option Value) → Heap → Prop} {YP : World → Heap → Prop} {d : DefRec} {K : Params → PySem.W.Frag} {CX : World → CXT} {sp : World → Sp} {x : Str}
    (hn : l.most = some n) (hn2 : n ≤ sizeLine) (hdf : d.params.defaults = []) (hr : Room k callerA)
    (hY : ∀ (w : World) (h : Heap), YP w h → (K w.params).In h)
    (F : ∀ (w : World) (mg : Str → Option Value) (fa : Addr) (h : Heap), (K w.params).In h → h.Ns mainGlobals mg → mg d.name = some (.ref fa) →
      ∃ fd : FuncData, (∀ (s : Shared) (u : Value), BindsTo s fd ⟨[u], []⟩ [(x, u)]) ∧
        ∀ base : Heap, (K w.params).In base → base.Ns mainGlobals mg → FnOk l.prog w (K w.params) mg base (CX w) k fa fd [x] (sp w))
    (hsp : ∀ (w : World) (H : Hp) (a : Addr) (ns : List Int), ns.length ≤ n → Only H → SqL (K w.params) H a (ns.map V.int) → sp w [.ref a] H (fun v _ => v = .bl true) fun _ _ _ => False)
    (hCX : ∀ (w : World) (H : Hp) (s : Shared) (e : Value) (s' : Shared), CX w [] H s (fun _ _ _ => False) e s' → False) :
    PySem.W.WalkO q loose XP YP l.row.toRowW d [] (fun f vs => PySem.call f vs) := by
  refine Att.attach_call hn hdf fun w s₀ s₁ mg mb fa o pm cd doc a vs ns G Y ho hd hcd hmg hobj hints hlen hg => ?_
  have KX := hY w _ Y
  obtain ⟨fd, hb, hF⟩ := F w mg fa _ KX G.T.g hmg
  exact law_call KX G.T.g G.T.b G.T.builtins G.T.nolimit hg hobj hints (Nat.le_trans hlen hn2) hr hF hb (fun H hO hS => hsp w H a ns hlen hO hS) fun H e s' => hCX w H s₁ e s'
end L2

/- THE LAST THEOREM (shape; LID, My.* are yours):
   My.Adr: a structure of the addresses that your layer names (classes, functions); My.Txt K t: a structure (Prop) of the equations over K;
   My.txt_mk : {K} {implicit addresses ..} (e1 : nsIn K mainGlobals "law" = some (some (.ref f))) (e2 : K.lookup f = some ⟨oc, od, .func (fnOf "law" "law" params body scope dV kV doc pm an cdv ct), sl⟩) (e3 : codeIn K cdv "law" = true) .. : ∃ t, My.Txt K t

set_option maxRecDepth 100000 in
set_option maxHeartbeats 0 in
theorem PySem.Challenge.cw_LID_holds : PySem.Challenge.rw_LID.Holds := by
  w_on; o_law; k_head; (case hw => w_witness2)
  k_fill
  refine L2.walk_of (l := PySem.Challenge.rw_LID) (n := 63) (k := 40) (x := "script") (CX := fun w => ..) (sp := fun _ => My.sp_law) rfl (by decide) rfl ⟨rfl, by decide, by decide⟩ (fun w h Y => PySem.W.kIn_of Y) ?F ?S ?C
  case F =>
    intro w mg fa h KX G hmg
    have T : ∃ t, My.Txt (L2.KOf KX) t := by
      dsimp only [L2.KOf]                          -- K must stand as «<heap const> w.params» for k_is
      refine' My.txt_mk ?e1 ?e2 ?e3 ..
      (case e1 => PySem.W.k_is)                    -- in the order: a name -> its address -> its object -> its parts
      (case e2 => PySem.W.k_is)
      ..
    obtain ⟨t, T⟩ := T
    have e0 := hmg.symm.trans (PySem.W.mg_of KX G T.law)
    cases e0                                       -- fa is the law's own address
    exact ⟨_, fun s u => .of_eq rfl, fun base kb nb => My.law_fn T kb nb⟩     -- if «.of_eq rfl» comes too early: refine' ⟨_, ?b, fun base kb nb => My.law_fn T kb nb⟩; exact fun s u => .of_eq rfl
  case S => exact fun w H a ns hl hO hS => ..
  case C => exact ..
(the tactic k_is has no namespace: write k_is) -/

namespace L2
open PySem PySem.Spec PyProof.Rows

noncomputable def inClass (s : Stmt) (j : Nat) : Stmt := match s with
  | .ClassDef _ _ _ body _ _ _ _ _ _ _ => body.getD j (.Pass ⟨0, 0, 0, 0⟩)
  | _ => .Pass ⟨0, 0, 0, 0⟩
noncomputable def defArgs (s : Stmt) : Arguments := match s with
  | .FunctionDef _ a _ _ _ _ _ _ _ _ => a
  | _ => { posonlyargs := [], args := [], vararg := none, kwonlyargs := [], kw_defaults := [], kwarg := none, defaults := [] }
noncomputable def defBody (s : Stmt) : List Stmt := match s with
  | .FunctionDef _ _ b _ _ _ _ _ _ _ => b
  | _ => []
noncomputable def defScope (s : Stmt) : Scope := match s with
  | .FunctionDef _ _ _ _ _ _ sc _ _ _ => sc
  | _ => { kind := .function, names := [], isGenerator := false, isCoroutine := false }

noncomputable abbrev CX0 : CXT := fun _ _ _ _ _ _ => False
noncomputable abbrev E0 : XK := fun _ _ _ => False
theorem pass0 {X : Cx} : Passes CX0 X E0 := fun _ _ _ _ _ _ _ h => h.elim

structure Fun (K : PySem.W.Frag) (x qual : Str) (st : Stmt) (f : Addr) (fd : FuncData) : Prop where
  ex : ∃ (oc : Value) (od : Option Addr) (kV doc pm : Value) (an : Option Addr) (cdv ct : Value) (osl : Array (Option Value)),
    fd = PySem.W.fnOf x qual (defArgs st) (defBody st) (defScope st) .none kV doc pm an cdv ct ∧ K.lookup f = some ⟨oc, od, .func fd, osl⟩ ∧ PySem.W.codeIn K cdv qual = true
  kp : PySem.W.keepIn K (.ref f) = true
section
variable {P : Program} {w : World} {K : PySem.W.Frag} {mg : Str → Option Value} {base : Heap}
theorem Fun.ok {x qual : Str} {st : Stmt} {f : Addr} {fd : FuncData} {N ps : List Str} {k : Nat} {sp : Sp} (F : Fun K x qual st f fd) (S : FnScope N ps (defScope st)) (len : ∀ vs H Q E, sp vs H Q E → vs.length = ps.length)
    (hbody : ∀ (cdv : Value) (A : Around) (outer : List Env) (s : Shared) (H : Hp) (vs : List V) (Q : VK) (E : XK), Room k (A.deeper (envOfC qual (defScope st) s.heap.objs.size f cdv)) → sp vs H Q E →
      ∃ t, PSs (cxOf CX0 P w K mg base N qual (defScope st) f cdv A outer s H E).nox (defBody st) t ∧ t { nx := fun _ H' => Q .non H', rt := Q } (start N vs) H) : FnOk P w K mg base CX0 (k + 1) f fd ps sp := by
  obtain ⟨oc, od, kV, doc, pm, an, cdv, ct, osl, rfl, lk, hcd⟩ := F.ex
  refine fn_of lk hcd S len fun A outer s H vs Q E hr hsp => ?_
  obtain ⟨t, h, q⟩ := hbody cdv A outer s H vs Q E hr hsp
  exact ⟨t, h.nox, q⟩
theorem Fun.binds {x qual : Str} {st : Stmt} {f : Addr} {fd : FuncData} {ps : List Str} (F : Fun K x qual st f fd)
    (h : ∀ (kV doc pm : Value) (an : Option Addr) (cdv ct : Value) (us : List Value), us.length = ps.length → bindArgs (PySem.W.fnOf x qual (defArgs st) (defBody st) (defScope st) .none kV doc pm an cdv ct) ⟨us, []⟩ = pure (ps.zip us)) : Binds K fd ps [] := by
  obtain ⟨oc, od, kV, doc, pm, an, cdv, ct, osl, rfl, lk, hcd⟩ := F.ex
  exact .all (h kV doc pm an cdv ct)
theorem fun_mk {x qual : Str} {st : Stmt} {f : Addr} {oc : Value} {od an : Option Addr} {osl : Array (Option Value)} {kV doc pm cdv ct : Value} (l : K.lookup f = some ⟨oc, od, .func (PySem.W.fnOf x qual (defArgs st) (defBody st) (defScope st) .none kV doc pm an cdv ct), osl⟩)
    (c : PySem.W.codeIn K cdv qual = true) (k : PySem.W.keepIn K (.ref f) = true) : Fun K x qual st f (PySem.W.fnOf x qual (defArgs st) (defBody st) (defScope st) .none kV doc pm an cdv ct) := ⟨⟨oc, od, kV, doc, pm, an, cdv, ct, osl, rfl, l, c⟩, k⟩
end
theorem hu_of {A : Around} {k : Nat} (hr : Room k A) : A.units + 1 < cLine := Nat.lt_of_le_of_lt (Nat.add_le_add_left (by decide : 1 ≤ 64) _) hr.units
theorem small1000 {n : Nat} (h : n ≤ 1000) : n < sizeLine := Nat.lt_of_le_of_lt h (by decide)

section
variable {X : Cx}
theorem pv (i : Nat) {x : Str} {pos : Pos} (hN : X.N[i]? = some x := by rfl) (hv : Vis X.env.scope x := by first | exact Or.inl rfl | exact Or.inr (Or.inl rfl) | exact Or.inr (Or.inr rfl)) (hd : (x == ("__debug__" : Str)) = false := by decide)
    (hcd : (x == ("__classdict__" : Str)) = false := by decide) : PE X (.Name x pos) (tVar i) := pe_var hN hv hd hcd
end

theorem iteF {A B : Prop} (h : B) : if false = true then A else B := by
  rw [if_neg Bool.false_ne_true]
  exact h
theorem iteT {A B : Prop} (h : A) : if true = true then A else B := by
  rw [if_pos rfl]
  exact h
theorem ite2 {c A B : Prop} [Decidable c] (h1 : c → A) (h2 : ¬ c → B) : if c then A else B := by
  by_cases h : c
  · rw [if_pos h]
    exact h1 h
  · rw [if_neg h]
    exact h2 h
theorem iteNS {c A B : Prop} [Decidable c] (hc : c) (h : B) : if (!decide c) = true then A else B := by
  rw [decide_eq_true hc]
  exact iteF h

noncomputable def Same (H H' : Hp) : Prop := ∀ b o, H b = some o → H' b = some o
theorem Same.refl (H : Hp) : Same H H := fun _ _ h => h
theorem Same.trans {H H1 H2 : Hp} (a : Same H H1) (b : Same H1 H2) : Same H H2 := fun c o h => b c o (a c o h)
theorem Same.free {H H' : Hp} (e : Same H H') {l : Addr} (h : H' l = Option.none) : H l = Option.none := by
  cases q : H l with
  | none => rfl
  | some o =>
    rw [e l o q] at h
    cases h
theorem Same.seq {K : PySem.W.Frag} {H H' : Hp} {a : Addr} {xs : List V} (e : Same H H') (h : SqL K H a xs) : SqL K H' a xs := by
  rcases h with (h | ⟨o, h⟩) | h
  · exact .inl (.inl (e _ _ h))
  · exact .inl (.inr ⟨o, e _ _ h⟩)
  · exact .inr h

section
variable {X : Cx}
end
section
variable {κ : Type} [DecidableEq κ]
theorem valV_not {kvs : List (κ × V)} {k : κ} (h : valV kvs k = none) : ¬ k ∈ kvs.map (·.1) := by
  intro m
  obtain ⟨p, hp, e⟩ := List.mem_map.mp m
  have q : (kvs.any fun kv => decide (kv.1 = k)) = true := List.any_eq_true.mpr ⟨p, hp, decide_eq_true e⟩
  rw [valV_any, h] at q
  exact absurd q (by simp)
theorem nd_snoc : ∀ {l : List κ} {k : κ}, l.Nodup → ¬ k ∈ l → (l ++ [k]).Nodup
  | [], k, _, _ => by simp
  | a :: r, k, h, hk => by
    obtain ⟨h1, h2⟩ := List.nodup_cons.mp h
    show (a :: (r ++ [k])).Nodup
    refine List.nodup_cons.mpr ⟨fun m => ?_, nd_snoc h2 fun m => hk (List.mem_cons.mpr (Or.inr m))⟩
    rcases List.mem_append.mp m with q | q
    · exact h1 q
    · exact hk (List.mem_cons.mpr (Or.inl (List.mem_singleton.mp q).symm))
end
end L2


set_option Elab.async false
set_option linter.all false
set_option maxRecDepth 100000
set_option maxHeartbeats 4000000
namespace L2
open PySem PySem.Spec PyProof.Rows

structure Df (P : Program) (w : World) (K : PySem.W.Frag) (mg : Str → Option Value) (base : Heap) (k : Nat) (x : Str) (ps : List Str) (sp : Sp) : Prop where
  ex : ∃ (f : Addr) (fd : FuncData), mg x = some (.ref f) ∧ PySem.W.keepIn K (.ref f) = true ∧ Binds K fd ps [] ∧ FnOk P w K mg base CX0 k f fd ps sp
theorem pe_df {X : Cx} {k : Nat} {x : Str} {ps : List Str} {sp : Sp} {e : Expr} {es : List Expr} {t : TA} {p pos : Pos} (D : Df X.prog X.w X.K X.mg X.base k x ps sp) (hr : Room k X.A) (ha : PA X (e :: es) t)
    (hg : Gl X x := by rfl) (hdb : (x == ("__debug__" : Str)) = false := by decide) (he : starEach (e :: es) X.env = (false, eval e X.env) :: starEach es X.env := by rfl) (hpl : (backTo pos (starEach es X.env)).any (·.1) = false := by rfl) :
    PE X (.Call (.Name x p) (e :: es) [] pos) (tCall sp [] E0 t) := by
  obtain ⟨f, fd, h1, h2, h3, h4⟩ := D.ex
  exact pe_call h4 hr hg h1 h2 h3 .nil pass0 ha hdb he hpl

section
variable {X : Cx} {pins : List (Addr × Obj)} {σ : St} {H : Hp} {s : Shared} {h' : Heap}
theorem Inv.turnNew {fp : List Addr} {p : Addr} {o : HO} {t' : Nat} (I : Inv X pins σ H s) (hf : ∀ b ∈ fp, FpOk X pins H b) (k : ∀ b u, b ∉ fp → s.heap.get? b = some u → h'.get? b = some u) (hp : s.heap.objs.size ≤ p)
    (new : ObjOk X.prog X.w (upd H p o) h' p o) : Inv X pins σ (upd H p o) { s with heap := h', toks := t' } := by
  have hn : H p = none := I.hok.fresh hp
  have nfp : ∀ b u, H b = some u → b ∉ fp := fun b u e z => by rw [(hf b z).1] at e; cases e
  refine I.step (g' := s.gens) (d' := s.drawn) (ch := fp) (fun b hb => ?_) (fun b u _ _ hc e _ => k b u hc e) (fun b u _ _ hc e _ => ⟨u.slots, k b u hc e⟩) (fun b u _ e n => ?_)
    (fun b u hc e => ⟨u, k b u hc e⟩) (fun b xs e => ?_) (fun b u v e => ?_) (fun b ps e => ?_) (fun m hm => ?_) (fun b u e => ?_) I.bare
  · obtain ⟨f0, f1, f2, f3, f4, f5⟩ := hf b hb
    exact ⟨f3, f1, f4, f5⟩
  · rw [upd_ne (Nat.ne_of_lt (Nat.lt_of_lt_of_le (Heap.lt_size e) hp))]; exact n
  · rw [upd_ne (ne_of_none e hn)]; exact e
  · rw [upd_ne (ne_of_none e hn)]; exact e
  · exact ⟨#[], by rw [upd_ne (ne_of_none e hn), e]; simp⟩
  · obtain ⟨o1, es, ep, ho, r⟩ := hm
    exact ⟨o1, es, ep, k _ o1 (fun z => (hf _ z).2.1 rfl) ho, r⟩
  · by_cases hb : b = p
    · subst hb; rw [upd_same] at e; cases e; exact new
    · rw [upd_ne hb] at e
      refine (I.hok b u e).stay (fun c v hc q => k c v ?_ q) (fun c q => by rw [upd_ne (ne_of_none q hn)]; exact q) fun c xs q => by rw [upd_ne (ne_of_none q hn)]; exact q
      rcases hc with z | z
      · rw [z]; exact nfp b u e
      · exact nfp c _ z
end

noncomputable def Ite (K : PySem.W.Frag) (a : Addr) : It :=
  ⟨fun i H => ∃ xs x, SqL K H a xs ∧ xs[i]? = some x, fun i H x H' => ∃ p y, x = .ref p ∧ H p = none ∧ H' = upd H p (.tup [.int (i : Nat), y]) ∧ ∀ xs, SqL K H a xs → xs[i]? = some y, fun i H => ∃ xs, SqL K H a xs ∧ xs.length ≤ i⟩
theorem turn_enum {P : Program} {w : World} {K : PySem.W.Frag} {elts : List Expr} {kk : Nat} {tp : Pos} (a e it : Addr) (hne : e ≠ it) : Turn P w K (.Tuple elts kk tp) (Ite K a) [e, it] e (fun i h => (∃ old, IsEnum h e it ((i : Nat) : Int) old) ∧ h.IsListIter it a i) where
  mem := by simp
  obj := fun i h st b hb => by
    obtain ⟨⟨old, he⟩, hit⟩ := st
    rcases List.mem_cons.mp hb with z | hb
    · subst z
      exact ⟨_, he, fun v z => by
        have z' : Data.fields _ = Data.cell v := z
        cases z'⟩
    · have z : b = it := by simpa using hb
      subst z
      obtain ⟨o, e, c, d⟩ := hit
      exact ⟨o, e, fun v z => by rw [d] at z; cases z⟩
  keep := fun i h h' st k => by
    obtain ⟨⟨old, he⟩, hit⟩ := st
    exact ⟨⟨old, k e (by simp) _ he⟩, hit.at fun o q => k it (by simp) o q⟩
  item := by
    intro X hP hw hK hc i pins s σ H E I hf st hg
    subst hP hw hK
    obtain ⟨⟨old, he⟩, hit⟩ := st
    obtain ⟨xs, x, hq, hx⟩ := hg
    obtain ⟨its, rv, p, hz⟩ := I.list hq
    obtain ⟨u, hu, ru⟩ := rv.get hx
    have hel : e < s.heap.objs.size := Heap.lt_size he
    have hil : it < s.heap.objs.size := by obtain ⟨_, q, _⟩ := hit; exact Heap.lt_size q
    have hp : H s.heap.objs.size = none := I.hok.fresh (Nat.le_refl _)
    refine wpAny_pyNext_enum_item he hit p.isList (x := u) (by simpa using hu) hne fun h' ho hit' hT hsz hk => ?_
    refine ⟨_, rfl, ?_⟩
    refine wpAny_letOwnedTupleGo_enum ho fun h2 he2 hs2 => ?_
    have hs2 : Heap.SameBut e h' h2 := hs2
    have keep : ∀ b u, b ∉ [e, it] → s.heap.get? b = some u → h2.get? b = some u := fun b u hb q => by
      have b1 : b ≠ e := fun z => hb (by simp [z])
      have b2 : b ≠ it := fun z => hb (by simp [z])
      exact (hs2.2 b b1).trans (hk b u b1 b2 q)
    have new : ObjOk X.prog X.w (upd H s.heap.objs.size (.tup [.int (i : Nat), x])) h2 s.heap.objs.size (.tup [.int (i : Nat), x]) := by
      refine ⟨by show 2 ≤ sizeLine; decide, [.int i s.toks, u], .cons ⟨_, rfl⟩ (.cons ru .nil), ⟨_, (hs2.2 _ (Nat.ne_of_gt hel)).trans hT, rfl, _, rfl⟩⟩
    refine ⟨.ref s.heap.objs.size, upd H s.heap.objs.size (.tup [.int (i : Nat), x]), I.turnNew (fp := [e, it]) hf keep (Nat.le_refl _) new, rfl, ⟨_, x, rfl, hp, rfl, fun ys hy => by rw [I.list_inj hy hq]; exact hx⟩,
      ⟨⟨_, he2⟩, hit'.at fun o q => (hs2.2 it (Ne.symm hne)).trans q⟩, fun b hb => ?_⟩
    have hb2 : b < s.heap.objs.size := by
      rcases List.mem_cons.mp hb with z | hb
      · rw [z]; exact hel
      · have z : b = it := by simpa using hb
        rw [z]; exact hil
    rw [upd_ne (Nat.ne_of_lt hb2)]
    exact (hf b hb).1
  done := by
    intro X hP hw hK hc i pins s σ H E I hf st hg
    subst hP hw hK
    obtain ⟨⟨old, he⟩, hit⟩ := st
    obtain ⟨xs, hq, hx⟩ := hg
    obtain ⟨its, rv, p, hz⟩ := I.list hq
    obtain ⟨f0, f1, f2, f3, f4, f5⟩ := hf it (by simp)
    have hl := rv.length
    exact wpAny_pyNext_enum_end (I.ok.hd hc) he hit p.isList (by simp; lia) fun h' eb => ⟨rfl, I.turned (t' := s.toks) (fun b o hb e => eb b o hb e) f0 f1 f3 f4 f5⟩
  self := fun _ _ _ _ _ st h => by
    obtain ⟨⟨old, he⟩, hit⟩ := st
    exact wpAny_pyIter_enum he h
section
variable {X : Cx}
noncomputable def iEnum (K : PySem.W.Frag) (tl : TE) : TI := fun σ H R => tl σ H fun x H1 => ∃ a, x = .ref a ∧ (∃ xs, SqL K H1 a xs) ∧ R (Ite K a) H1
theorem pi_enum {l : Expr} {tl : TE} {elts : List Expr} {kk : Nat} {tp p pos : Pos} (hg : Gl X "enumerate") (hm : X.mg "enumerate" = none) (hl : PE X l tl) (hs : starEach [l] X.env = [(false, eval l X.env)] := by rfl) :
    PI X (.Tuple elts kk tp) (.Call (.Name "enumerate" p) [l] [] pos) (iEnum X.K tl) := by
  intro pins s σ H R I h
  have ha : PA X [l] (tCons tl tNil) := pa_cons hl pa_nil hs
  refine Call_ (ld_blt I hg hm boot_enumerate (PyProof.Rows.callWith_type1 (thn (ha pos pins s σ H (fun vs H1 => ∃ x, vs = [x] ∧ ∃ a, x = .ref a ∧ (∃ xs, SqL X.K H1 a xs) ∧ R (Ite X.K a) H1) I ?_) fun us s1 ⟨vs, H1, I1, r1, q1⟩ => ?_) hs rfl))
  · show tl σ H fun x H1 => _
    exact cast (congrArg (tl σ H) (by funext x H1; show _ = (∃ y, [x] = [y] ∧ _); exact propext ⟨fun z => ⟨x, rfl, z⟩, fun ⟨y, e, z⟩ => by cases e; exact z⟩)) h
  · obtain ⟨x, e, a, e2, ⟨xs, hq⟩, q⟩ := q1
    subst e; subst e2
    cases r1 with
    | cons r rr =>
      cases rr
      cases r
      obtain ⟨its, rv, p, hz⟩ := I1.list hq
      refine call_enumerate_list p.isList fun h' he hit hsz hk => ?_
      have I2 : Inv X pins σ H1 { s1 with heap := h' } := I1.kept (t' := s1.toks) hk
      refine wpAny_pyIter_enum (s := { s1 with heap := h' }) he ?_
      refine ⟨s1.heap.objs.size + 1, [s1.heap.objs.size + 1, s1.heap.objs.size], _, _, H1, rfl, I2, turn_enum a _ _ (Nat.ne_of_gt (Nat.lt_succ_self _)), ⟨⟨_, he⟩, hit⟩, fun b hb => ?_, q⟩
      have hb2 : s1.heap.objs.size ≤ b := by
        rcases List.mem_cons.mp hb with z | hb
        · rw [z]; exact Nat.le_succ _
        · have z : b = s1.heap.objs.size := by simpa using hb
          rw [z]; exact Nat.le_refl _
      exact I1.fpOk hb2 (I1.hok.fresh hb2)
end
theorem for_enum {K : PySem.W.Frag} {a : Addr} {xs : List V} {g : TG} {tb : TS} {D : Ends} {σ : St} {H : Hp} (Pv : Nat → St → Hp → Prop) (h0 : Pv 0 σ H) (hl : ∀ i σ H, i ≤ xs.length → Pv i σ H → SqL K H a xs)
    (hs : ∀ i x σ H p, xs[i]? = some x → Pv i σ H → H p = none → g (.ref p) σ (upd H p (.tup [.int (i : Nat), x])) fun σ2 H2 => tb (D.lp (Pv (i + 1))) σ2 H2) (hd : ∀ σ H, Pv xs.length σ H → D.nx σ H) :
    ∃ W : Nat → Nat → St → Hp → Prop, (∃ m, W 0 m σ H) ∧ ∀ i m σ H, W i m σ H →
      ((Ite K a).stop i H ∧ D.nx σ H) ∨ ((Ite K a).go i H ∧ ∃ N : St → Hp → Prop, (∀ σ' H', N σ' H' → ∃ m', m' < m ∧ W (i + 1) m' σ' H') ∧ ∀ x H', (Ite K a).yld i H x H' → g x σ H' fun σ2 H2 => tb (D.lp N) σ2 H2) := by
  refine ⟨fun i m σ H => m = xs.length - i ∧ i ≤ xs.length ∧ Pv i σ H, ⟨xs.length, by simp, Nat.zero_le _, h0⟩, ?_⟩
  rintro i m σ H ⟨rfl, hi, p⟩
  have q := hl i σ H hi p
  by_cases hlt : i < xs.length
  · refine .inr ⟨⟨xs, xs[i], q, by simp [hlt]⟩, Pv (i + 1), fun σ' H' p' => ⟨xs.length - (i + 1), by lia, rfl, hlt, p'⟩, fun x H' y => ?_⟩
    obtain ⟨pp, z, e1, e2, e3, e4⟩ := y
    subst e1; subst e3
    exact hs i z σ H pp (e4 xs q) p e2
  · have e : i = xs.length := by lia
    subst e
    exact .inl ⟨⟨xs, q, Nat.le_refl _⟩, hd σ H p⟩
end L2

set_option Elab.async false
set_option linter.all false
set_option maxRecDepth 100000
set_option maxHeartbeats 4000000
namespace L2
open PySem PySem.Spec PyProof.Rows

section
variable {prog : Program} {w : World} {A : Around} {R : Result → Shared → Prop} {s : Shared}
theorem compLoop_any {elt target iter : Expr} {ifs : List Expr} {scope : Scope} {pos : Pos} {it acc : Value} {env : Env} (I : Nat → Shared → Prop)
    (turn : ∀ n s, I n s → wpAny (model prog w) A (pyNext it) (fun r s₁ => match r with
      | none => R (.ok .next) s₁
      | some v => wpAny (model prog w) A (letOwnedTupleGo target it v) (fun _ s₀ => wpAny (model prog w) A (assign target env v) (fun _ s₂ =>
          wpAny (model prog w) A (forIn ifs true fun c r => if r = true then do let ok ← isTrue c env (eval c env); pure (ForInStep.yield ok) else pure (ForInStep.yield r)) (fun ok s₃ =>
            if ok = true then wpAny (model prog w) A (eval elt env) (fun x s₄ =>
              wpAny (model prog w) A (call (.builtin "list.append") [acc, x]) (fun _ s₅ => ∃ m, m < n ∧ I m s₅) (fun _ _ => False) s₄) (fun _ _ => False) s₃
            else ∃ m, m < n ∧ I m s₃) (fun _ _ => False) s₂) (fun _ _ => False) s₀) (fun _ _ => False) s₁) (fun _ _ => False) s)
    (n : Nat) (h : I n s) :
    codeAny (model prog w) A (.compLoop (.ListComp elt [⟨target, iter, ifs, 0⟩] scope pos) 0 it acc env) R s := by
  refine codeAny_loop rfl I (fun n s hI => ?_) n h
  show wpAny _ A ((compTurn (.ListComp elt [⟨target, iter, ifs, 0⟩] scope pos) 0 it acc env).onRaise (fun x => do noteFrame x env; theTreesLotGoes x)) _ _ s
  refine wpAny_noted ?_
  rw [compTurn_list]
  refine wpAny_bind (wpAny_standAt (wpAny_bind (wpAny_mono (turn n s hI) (fun r s₁ h₁ => ?_) fun _ _ h' => h'.elim)))
  cases r with
  | none => exact wpAny_pure h₁
  | some v =>
    refine wpAny_bind (wpAny_mono h₁ (fun _ s₀ h₀ => ?_) fun _ _ h' => h'.elim)
    refine wpAny_bind (wpAny_mono h₀ (fun _ s₂ h₂ => wpAny_bind (wpAny_mono h₂ (fun ok s₃ h₃ => ?_) fun _ _ h' => h'.elim)) fun _ _ h' => h'.elim)
    cases ok with
    | false => exact wpAny_pure ⟨rfl, h₃⟩
    | true =>
      exact wpAny_bind (wpAny_bind (wpAny_mono h₃ (fun x s₄ h₄ => wpAny_bind (wpAny_mono h₄ (fun _ s₅ h₅ => wpAny_pure (wpAny_pure ⟨rfl, h₅⟩)) fun _ _ h' => h'.elim)) fun _ _ h' => h'.elim))
end

noncomputable abbrev Cap := List (Nat × Str)
noncomputable def capV (cap : Cap) (σ : St) : St := cap.map fun p => (σ[p.1]?).join
noncomputable def Cx.blk (X : Cx) (scope : Scope) (cl : List (Str × Addr)) (ts : List Str) (cap : Cap) (C : Addr) (s : Shared) (H : Hp) (fp : List Addr) : Cx :=
  { X with N := ts ++ cap.map (·.2), s₀ := s, H₀ := H, env := compEnvC scope cl C X.env, outer := X.stack, stack := X.stack, ex := fp, fn := fun _ => false, pn := [], xe := fun _ _ => False }
structure Blk (X : Cx) (scope : Scope) (ts : List Str) (cap : Cap) (cl : List (Str × Addr)) : Prop where
  clos : closureFor scope X.env = pure cl
  ncell : ∀ y ∈ scope.names, y.2 ≠ .cell
  kind : scope.kind = .function
  names : ∀ y ∈ scope.names, y.2 = .local → scope.names.lookup y.1 = some .local
  sub : ∀ y c, cl.lookup y = some c → X.env.cells.lookup y = some c
  has : ∀ y, ((relabel scope X.env).names.lookup y = some .cell ∨ (relabel scope X.env).names.lookup y = some .free) → ∃ c, cl.lookup y = some c
  cap : ∀ (k j : Nat) (y : Str), cap[k]? = some (j, y) → X.N[j]? = some y ∧ (X.env.kindOf y = some .cell ∨ X.env.kindOf y = some .free) ∧
    ((relabel scope X.env).names.lookup y = some .cell ∨ (relabel scope X.env).names.lookup y = some .free)
theorem lookup_mem {α : Type} {x : Str} {v : α} : ∀ {l : List (Str × α)}, l.lookup x = some v → (x, v) ∈ l
  | [], h => by simp at h
  | (y, u) :: r, h => by
    rw [List.lookup_cons] at h
    cases e : x == y with
    | true =>
      rw [e] at h
      have e' : x = y := eq_of_beq e
      cases h
      rw [e']
      exact List.mem_cons_self
    | false =>
      rw [e] at h
      exact List.mem_cons_of_mem _ (lookup_mem h)
theorem relabel_none {scope : Scope} {env : Env} (hfree : ∀ y ∈ scope.names, y.2 ≠ .free) : (relabel scope env).names = scope.names := by
  show scope.names.map _ = scope.names
  refine map_eq_self fun x hx => ?_
  obtain ⟨n, k⟩ := x
  have : (k == NameKind.free) = false := by simpa using hfree _ hx
  simp [this]
theorem Blk.plain {X : Cx} {scope : Scope} {ts : List Str} (hfree : ∀ y ∈ scope.names, y.2 ≠ .free) (ncell : ∀ y ∈ scope.names, y.2 ≠ .cell) (kind : scope.kind = .function) (names : ∀ y ∈ scope.names, y.2 = .local → scope.names.lookup y.1 = some .local) :
    Blk X scope ts [] [] where
  clos := closureFor_none hfree
  ncell := ncell
  kind := kind
  names := names
  sub := fun _ _ e => nomatch e
  has := fun y h => by
    rw [relabel_none hfree] at h
    rcases h with h | h
    · exact (ncell _ (lookup_mem h) rfl).elim
    · exact (hfree _ (lookup_mem h) rfl).elim
  cap := fun k j y h => by simp at h

section
variable {X : Cx} {scope : Scope} {ts : List Str} {cap : Cap} {cl : List (Str × Addr)} {pins : List (Addr × Obj)} {σ : St} {H : Hp} {s : Shared} {fp : List Addr}
theorem blk_ok (B : Blk X scope ts cap cl) (I : Inv X pins σ H s) (hf : ∀ b ∈ fp, FpOk X pins H b) (hlt : ∀ b ∈ fp, b < s.heap.objs.size) {C : Addr} (hC : s.heap.objs.size ≤ C) : (X.blk scope cl ts cap C s H fp).Ok where
  mod := I.ok.mod
  kind := B.kind
  glob := I.ok.glob
  blt := I.ok.blt
  above := hC
  inj := fun x y c h1 h2 => I.ok.inj x y c (B.sub x c h1) (B.sub y c h2)
  has := fun x h => B.has x h
  cab := fun x c h => nomatch h
  hd := I.ok.hd
  frames := I.ok.frames
  stk := .inl rfl
  exf := fun b hb => ⟨Nat.ne_of_lt (Nat.lt_of_lt_of_le (hlt b hb) hC), fun x c e => (hf b hb).2.2.2.2.1 x c (B.sub x c e)⟩
  bs := I.bs
  bsz := Nat.le_trans I.ok.bsz I.sz
  noex := fun b o e hb => by
    rcases (hf b hb).2.2.2.1 with z | z
    · exact I.ok.noex b o e z
    · exact absurd (Nat.lt_of_lt_of_le (Heap.lt_size e) (Nat.le_trans I.ok.bsz z)) (Nat.lt_irrefl _)
  exfs := fun b hb z => by
    rcases List.mem_cons.mp (I.stkSub b z) with e | e
    · exact (hf b hb).2.1 e
    · exact (hf b hb).2.2.1 e
  funs := I.stack
  frf := I.stkFree
theorem capV_get {k : Nat} {v : V} (h : (capV cap σ)[k]? = some (some v)) : ∃ j y, cap[k]? = some (j, y) ∧ σ[j]? = some (some v) := by
  unfold capV at h
  rw [List.getElem?_map] at h
  cases e : cap[k]? with
  | none => rw [e] at h; cases h
  | some p =>
    rw [e] at h
    refine ⟨p.1, p.2, rfl, ?_⟩
    have h' : (σ[p.1]?).join = some v := Option.some.inj h
    cases q : σ[p.1]? with
    | none => rw [q] at h'; cases h'
    | some o => rw [q] at h'; exact congrArg some h'
theorem blk_inv (B : Blk X scope ts cap cl) (I : Inv X pins σ H s) (hf : ∀ b ∈ fp, FpOk X pins H b) (hlt : ∀ b ∈ fp, b < s.heap.objs.size) {h₁ : Heap} {m : Str → Option Value} {t' : Nat} (hn : h₁.Ns (s.heap.objs.size + 1) m)
    (old : ∀ b o, s.heap.get? b = some o → h₁.get? b = some o) (hD : h₁.get? s.heap.objs.size = some { cls := .type "list", data := .seq #[] 0 }) :
    Inv (X.blk scope cl ts cap (s.heap.objs.size + 1) s H fp) [] (List.replicate ts.length none ++ capV cap σ) (upd H s.heap.objs.size (.lst [])) { s with heap := h₁, toks := t' } := by
  have fD : H s.heap.objs.size = none := I.hok.fresh (Nat.le_refl _)
  have fC : H (s.heap.objs.size + 1) = none := I.hok.fresh (Nat.le_succ _)
  have clt : ∀ x c, cl.lookup x = some c → c < s.heap.objs.size := fun x c e => by
    obtain ⟨v, q⟩ := I.cell x c (B.sub x c e)
    exact q.lt
  refine ⟨blk_ok B I hf hlt (Nat.le_succ _), rfl, I.bare, Un.laid old (Nat.le_refl _) fD, ⟨m, hn, fun i y v e1 e2 e3 => ?_⟩, fun x c e => ?_, ?_, fun x c e => ?_, fun p hp => by simp [Cx.blk] at hp, I.hok.laid old (Nat.le_refl _) ⟨Nat.zero_le _, [], 0, .nil, hD⟩, ?_⟩
  · have e2 : (List.replicate ts.length (none : Option V) ++ capV cap σ)[i]? = some (some v) := e2
    by_cases hi : i < ts.length
    · rw [List.getElem?_append_left (by simpa using hi), List.getElem?_replicate] at e2
      rw [if_pos hi] at e2
      cases e2
    · have hi : ts.length ≤ i := Nat.le_of_not_lt hi
      rw [List.getElem?_append_right (by simpa using hi), List.length_replicate] at e2
      obtain ⟨j, y', ec, es⟩ := capV_get e2
      have e1 : (ts ++ cap.map (·.2))[i]? = some y := e1
      rw [List.getElem?_append_right hi, List.getElem?_map, ec] at e1
      have ey : y' = y := Option.some.inj e1
      subst ey
      obtain ⟨c1, c2, c3⟩ := B.cap _ _ _ ec
      obtain ⟨mo, hno, hlo⟩ := I.loc
      have vis : Vis X.env.scope y' := by
        rcases c2 with c2 | c2
        · exact .inr (.inl c2)
        · exact .inr (.inr c2)
      obtain ⟨u, ru, lk⟩ := hlo j y' v c1 es vis
      rcases lk with ⟨k1, _⟩ | ⟨_, c, hc, o, ho, hd⟩
      · rcases c2 with c2 | c2
        · rw [k1] at c2; cases c2
        · rw [k1] at c2; cases c2
      · obtain ⟨c', hc'⟩ := B.has y' c3
        have q := B.sub y' c' hc'
        rw [hc] at q
        cases q
        exact ⟨u, ru, .inr ⟨c3, c, hc', o, old _ _ ho, hd⟩⟩
  · obtain ⟨v, o, ho, hd⟩ := I.cell x c (B.sub x c e)
    exact ⟨v, o, old _ _ ho, hd⟩
  · show upd H s.heap.objs.size (.lst []) (s.heap.objs.size + 1) = none
    rw [upd_ne (Nat.ne_of_gt (Nat.lt_succ_self _))]
    exact fC
  · rw [upd_ne (Nat.ne_of_lt (clt x c e))]
    exact I.freeC x c (B.sub x c e)
  · show (List.replicate ts.length none ++ capV cap σ).length = (ts ++ cap.map (·.2)).length
    simp [capV]
theorem blk_out (I : Inv X pins σ H s) (hf : ∀ b ∈ fp, FpOk X pins H b) {pl : List (Addr × Obj)} {σ' : St} {H' : Hp} {s' : Shared} {h' : Heap}
    (I' : Inv (X.blk scope cl ts cap (s.heap.objs.size + 1) s H fp) pl σ' H' s') (hs : Heap.SameBut (s.heap.objs.size + 1) s'.heap h') : Inv X pins σ H' { s' with heap := h' } := by
  have hC : H' (s.heap.objs.size + 1) = none := I'.free
  have u : Un (frs X.stack) fp H H' s.heap s'.heap := I'.base
  have nC : ∀ b o, s.heap.get? b = some o → b ≠ s.heap.objs.size + 1 := fun b o e => Nat.ne_of_lt (Nat.lt_succ_of_lt (Heap.lt_size e))
  refine I.call' (s' := { s' with heap := h' }) (ch := fp) I'.os ⟨fun b o e n h1 h2 => (hs.2 b (nC b o e)).trans (u.keep b o e n h1 h2), fun b o e n h1 h2 => ?_, u.free, fun b o e hx => ?_, u.tups, u.frzs, u.tbls⟩ (fun b o e => ?_) I'.bare (fun b hb => ?_)
  · obtain ⟨sl, q⟩ := u.slot b o e n h1 h2
    exact ⟨sl, (hs.2 b (nC b o e)).trans q⟩
  · obtain ⟨o', q⟩ := u.there b o e hx
    exact ⟨o', (hs.2 b (nC b o e)).trans q⟩
  · refine (I'.hok b o e).stay (fun c v hc q => (hs.2 c ?_).trans q) (fun _ q => q) fun _ _ q => q
    rcases hc with z | z
    · rw [z]; intro z2; rw [z2, hC] at e; cases e
    · intro z2; rw [z2, hC] at z; cases z
  · obtain ⟨f0, f1, f2, f3, f4, f5⟩ := hf b hb
    exact ⟨f3, f1, f4, f5⟩
end

noncomputable def PIfs (X : Cx) (ifs : List Expr) (t : TT) : Prop :=
  ∀ (pins : List (Addr × Obj)) (s : Shared) (σ : St) (H : Hp) (Q : Bool → Hp → Prop), Inv X pins σ H s → t σ H Q →
    wpAny (model X.prog X.w) X.A (forIn ifs true fun c r => if r = true then do let ok ← isTrue c X.env (eval c X.env); pure (ForInStep.yield ok) else pure (ForInStep.yield r)) (TP X pins σ Q) X.xe s
noncomputable def tTrue : TT := fun _ H Q => Q true H
theorem pifs_nil {X : Cx} : PIfs X [] tTrue := fun _ _ _ H _ I h => wpAny_tests_nil ⟨H, I, h⟩
theorem pifs_one {X : Cx} {c : Expr} {t : TT} (h : PT X c t) : PIfs X [c] t := fun pins s σ H Q I hq => wpAny_tests_one (h pins s σ H Q I hq)

noncomputable def tLC (wi : TI) (nt : Nat) (cap : Cap) (g : TG) (tt : TT) (te : TE) : TE := fun σ H Q => wi σ H fun J H1 => ∀ D, H1 D = none → ∃ W : Nat → Nat → St → List V → Hp → Prop,
  (∃ m, W 0 m (List.replicate nt none ++ capV cap σ) [] (upd H1 D (.lst []))) ∧ ∀ i m σ' ys H2, W i m σ' ys H2 →
    (J.stop i H2 ∧ Q (.ref D) H2) ∨ (J.go i H2 ∧ ∃ N : St → List V → Hp → Prop, (∀ σ ys H, N σ ys H → ∃ m', m' < m ∧ W (i + 1) m' σ ys H) ∧ ∀ x H3, J.yld i H2 x H3 → g x σ' H3 fun σ4 H4 => tt σ4 H4 fun b H5 =>
      if b = true then te σ4 H5 fun y H6 => H6 D = some (.lst ys) ∧ ys.length < sizeLine ∧ N σ4 (ys ++ [y]) (upd H6 D (.lst (ys ++ [y])))
      else N σ4 ys H5)
section
variable {X : Cx} {scope : Scope} {ts : List Str} {cap : Cap} {cl : List (Str × Addr)} {tg elt iter : Expr} {ifs : List Expr} {wi : TI} {g : TG} {tt : TT} {te : TE} {pos : Pos}
theorem run_blk (B : Blk X scope ts cap cl) (hc : X.calm = true) (hg : ∀ C s H fp, PG (X.blk scope cl ts cap C s H fp) tg g) (ht : ∀ C s H fp, PIfs (X.blk scope cl ts cap C s H fp) ifs tt) (he : ∀ C s H fp, PE (X.blk scope cl ts cap C s H fp) elt te)
    {pins : List (Addr × Obj)} {s : Shared} {σ : St} {H : Hp} {E : Value → Shared → Prop} {it : Addr} {fp : List Addr} {tn : Nat → Heap → Prop} {J : It} {Q : VK} {RR : Value → Addr → Result → Shared → Prop} (I : Inv X pins σ H s) (T : Turn X.prog X.w X.K tg J fp it tn) (st : tn 0 s.heap) (hf : ∀ b ∈ fp, FpOk X pins H b)
    (hw : ∀ D, H D = none → ∃ W : Nat → Nat → St → List V → Hp → Prop,
      (∃ m, W 0 m (List.replicate ts.length none ++ capV cap σ) [] (upd H D (.lst []))) ∧ ∀ i m σ' ys H2, W i m σ' ys H2 →
        (J.stop i H2 ∧ Q (.ref D) H2) ∨ (J.go i H2 ∧ ∃ N : St → List V → Hp → Prop, (∀ σ ys H, N σ ys H → ∃ m', m' < m ∧ W (i + 1) m' σ ys H) ∧ ∀ x H3, J.yld i H2 x H3 → g x σ' H3 fun σ4 H4 => tt σ4 H4 fun b H5 =>
          if b = true then te σ4 H5 fun y H6 => H6 D = some (.lst ys) ∧ ys.length < sizeLine ∧ N σ4 (ys ++ [y]) (upd H6 D (.lst (ys ++ [y])))
          else N σ4 ys H5))
    (hRR : ∀ (pl : List (Addr × Obj)) (σ' : St) (H' : Hp) (s' : Shared), Inv (X.blk scope cl ts cap (s.heap.objs.size + 1) s H fp) pl σ' H' s' → Q (.ref s.heap.objs.size) H' → RR (.ref s.heap.objs.size) (s.heap.objs.size + 1) (.ok .next) s') :
    wpAny (model X.prog X.w) X.A (newList []) (fun acc s₃ => wpAny (model X.prog X.w) X.A (newFunctionEnv scope X.env.globals cl [] X.env.qual none .none (some X.env)) (fun cenv s₄ =>
      codeAny (model X.prog X.w) X.A (.compStart (.ListComp elt [⟨tg, iter, ifs, 0⟩] scope pos) 0 (.ref it) acc { cenv with scope := relabel scope X.env }) (RR acc cenv.locals) s₄) E s₃) E s := by
  have hlt : ∀ b ∈ fp, b < s.heap.objs.size := fun b hb => by
    obtain ⟨o, e, _⟩ := T.obj _ _ st b hb
    exact Heap.lt_size e
  refine wpAny_newObj_type (wpAny_newFunctionEnv B.ncell (by intro y hy; simp at hy) (fun h₁ hns₁ hsb₁ => ?_) B.kind)
  dsimp only at hns₁ hsb₁ ⊢
  have hz : (s.heap.push { cls := .type "list", dict := none, data := .seq ([] : List Value).toArray }).objs.size = s.heap.objs.size + 1 := Heap.size_push ..
  rw [hz] at hns₁ hsb₁ ⊢
  have keep : ∀ b o, b ≠ s.heap.objs.size + 1 → (s.heap.push { cls := .type "list", dict := none, data := .seq ([] : List Value).toArray }).get? b = some o → h₁.get? b = some o := fun b o hb e => hsb₁.extBut b o hb (Heap.get?_push_of_some _ e)
  have old : ∀ b o, s.heap.get? b = some o → h₁.get? b = some o := fun b o e => keep b o (Nat.ne_of_lt (Nat.lt_succ_of_lt (Heap.lt_size e))) (Heap.get?_push_of_some _ e)
  have hD : h₁.get? s.heap.objs.size = some { cls := .type "list", data := .seq #[] 0 } := keep _ _ (Nat.ne_of_lt (Nat.lt_succ_self _)) (Heap.get?_push_size _ rfl)
  have fD : H s.heap.objs.size = none := I.hok.fresh (Nat.le_refl _)
  obtain ⟨W, ⟨m0, w0⟩, turn⟩ := hw s.heap.objs.size fD
  have I0 := blk_inv (t' := s.toks + ([] : List (Str × Value)).length) B I hf hlt hns₁ old hD
  have st0 : tn 0 h₁ := T.keep _ _ _ st fun b hb o e => old b o e
  have stat : ∀ {H' : Hp}, (∀ b ∈ fp, H' b = none) → ∀ b ∈ fp, FpOk (X.blk scope cl ts cap (s.heap.objs.size + 1) s H fp) [] H' b := fun hn b hb =>
    ⟨hn b hb, Nat.ne_of_lt (Nat.lt_succ_of_lt (hlt b hb)), fun z => by
      rcases List.mem_cons.mp (I.stkSub b z) with e | e
      · exact (hf b hb).2.1 e
      · exact (hf b hb).2.2.1 e, .inl hb, fun x c e => (hf b hb).2.2.2.2.1 x c (B.sub x c e), fun p hp => by simp [Cx.blk] at hp⟩
  have fr0 : ∀ b ∈ fp, (upd H s.heap.objs.size (.lst [])) b = none := fun b hb => by rw [upd_ne (Nat.ne_of_lt (hlt b hb))]; exact (hf b hb).1
  have loop : ∀ s₃ : Shared, s₃ = { s with heap := h₁, toks := s.toks + ([] : List (Str × Value)).length } →
      codeAny (model X.prog X.w) X.A (.compLoop (.ListComp elt [⟨tg, iter, ifs, 0⟩] scope pos) 0 (.ref it) (.ref s.heap.objs.size) (compEnvC scope cl (s.heap.objs.size + 1) X.env)) (RR (.ref s.heap.objs.size) (s.heap.objs.size + 1)) s₃ := by
    rintro s₃ rfl
    refine compLoop_any (fun n s' => ∃ i σ' ys H', Inv (X.blk scope cl ts cap (s.heap.objs.size + 1) s H fp) [] σ' H' s' ∧ tn i s'.heap ∧ (∀ b ∈ fp, H' b = none) ∧ W i n σ' ys H') ?_ m0 ⟨0, _, [], _, I0, st0, fr0, w0⟩
    rintro n s3 ⟨i, σ3, ys, H3, I3, st3, fr3, w3⟩
    rcases turn i n σ3 ys H3 w3 with ⟨stop, qn⟩ | ⟨go, N, hN, step⟩
    · refine thn (T.done (X.blk scope cl ts cap (s.heap.objs.size + 1) s H fp) rfl rfl rfl hc i [] s3 σ3 H3 (fun _ _ => False) I3 (stat fr3) st3 stop) fun r s4 z_ => ?_
      obtain ⟨hr, I4⟩ := z_
      subst hr
      exact hRR _ _ _ _ I4 qn
    · refine thn (T.item (X.blk scope cl ts cap (s.heap.objs.size + 1) s H fp) rfl rfl rfl hc i [] s3 σ3 H3 (fun _ _ => False) I3 (stat fr3) st3 go) fun r s4 z_ => ?_
      obtain ⟨u, hr, h4⟩ := z_
      subst hr
      refine thn h4 fun _ s5 z_ => ?_
      obtain ⟨x, H5, I5, r5, y5, st5, fr5⟩ := z_
      have I5' := I5.pinned (stat fr5) (T.obj _ _ st5)
      refine thn (hg _ _ _ _ _ s5 σ3 H5 x u _ I5' r5 (step x H5 y5)) fun _ s6 z_ => ?_
      obtain ⟨σ6, H6, I6, q6⟩ := z_
      refine thn (ht _ _ _ _ _ s6 σ6 H6 _ I6 q6) fun b s7 z_ => ?_
      obtain ⟨H7, I7, q7⟩ := z_
      have again : ∀ {σ8 : St} {H8 : Hp} {s8 : Shared} {m : Nat} {zs : List V}, Inv (X.blk scope cl ts cap (s.heap.objs.size + 1) s H fp) ([] ++ pinsAt fp s5.heap) σ8 H8 s8 → m < n → W (i + 1) m σ8 zs H8 → ∃ m, m < n ∧ ∃ i σ' ys H', Inv (X.blk scope cl ts cap (s.heap.objs.size + 1) s H fp) [] σ' H' s8 ∧ tn i s8.heap ∧ (∀ b ∈ fp, H' b = none) ∧ W i m σ' ys H' := fun {σ8 H8 s8 m zs} I8 hm w8 => by
        refine ⟨m, hm, i + 1, σ8, zs, H8, I8.unpinned, T.keep _ _ _ st5 fun b hb o e => (I8.pin (b, o) (List.mem_append_right _ (List.mem_append_right _ (mem_pinsAt hb e)))).1, fun b hb => ?_, w8⟩
        obtain ⟨o, e, d⟩ := T.obj _ _ st5 b hb
        exact (I8.pin (b, o) (List.mem_append_right _ (List.mem_append_right _ (mem_pinsAt hb e)))).2.1
      cases b with
      | false =>
        obtain ⟨m', hm, w7⟩ := hN _ _ _ q7
        exact again I7 hm w7
      | true =>
        rw [if_pos rfl]
        refine thn (he _ _ _ _ _ s7 σ6 H7 _ I7 q7) fun v s8 z_ => ?_
        obtain ⟨y, H8, I8, r8, hD8, hz8, n8⟩ := z_
        obtain ⟨m', hm, w8⟩ := hN _ _ _ n8
        refine thn (mt_append _ s8 σ6 H8 (.ref s.heap.objs.size) [y] (.ref s.heap.objs.size) [v] (fun _ H9 => H9 = upd H8 s.heap.objs.size (.lst (ys ++ [y]))) I8 rfl (.cons r8 .nil) ⟨_, _, _, rfl, rfl, hD8, hz8, rfl⟩) fun z s9 z_ => ?_
        obtain ⟨_, H9, I9, _, e9⟩ := z_
        subst e9
        exact again I9 hm w8
  exact codeAny_compStart_list (loop _ rfl) (T.self _ 0 _ _ _ st0 (loop _ rfl))

theorem pe_lc (B : Blk X scope ts cap cl) (hc : X.calm = true) (hi : PI X tg iter wi) (hg : ∀ C s H fp, PG (X.blk scope cl ts cap C s H fp) tg g) (ht : ∀ C s H fp, PIfs (X.blk scope cl ts cap C s H fp) ifs tt) (he : ∀ C s H fp, PE (X.blk scope cl ts cap C s H fp) elt te)
    (hs : ∀ x, foldedSetIterable iter X.env x = pure x := by intro _; rfl) : PE X (.ListComp elt [⟨tg, iter, ifs, 0⟩] scope pos) (tLC wi ts.length cap g tt te) := by
  intro pins s σ H Q I h
  rw [eval_ListComp]
  refine wpAny_comprehension_free (use := none) rfl hs B.clos B.kind B.names (thn (hi pins s σ H _ I h) fun v s1 h1 => thn h1 fun itv s2 h2 => ?_)
  obtain ⟨it, fp, tn, J, H2, e, I2, T, st2, f2, hw⟩ := h2
  subst e
  refine run_blk (RR := fun acc C => compPost (model X.prog X.w) X.A X.xe none (EP X pins σ Q) acc C) B hc hg ht he I2 T st2 f2 hw ?_
  intro pl σ' H' s' I' q
  obtain ⟨m, hn, _⟩ := I'.loc
  exact ⟨m, hn, fun h' hs' => ⟨.ref s2.heap.objs.size, H', blk_out I2 f2 I' hs', rfl, q⟩⟩
theorem ps_setLC {i : Nat} {y : Str} {py spos : Pos} (hN : X.N.Nodup) (hiN : X.N[i]? = some y) (hy : Loc X.env.scope y) (B : Blk X scope ts cap cl) (hc : X.calm = true) (hi : PI X tg iter wi) (hg : ∀ C s H fp, PG (X.blk scope cl ts cap C s H fp) tg g)
    (ht : ∀ C s H fp, PIfs (X.blk scope cl ts cap C s H fp) ifs tt) (he : ∀ C s H fp, PE (X.blk scope cl ts cap C s H fp) elt te)
    (hsw : swapsWith (.ListComp elt [⟨tg, iter, ifs, 0⟩] scope pos) (some (.Name y py)) spos.line X.env = pure true := by rfl) (hfn : X.fn y = true ∨ X.env.scope.names.lookup y = some .local := by first | exact .inl rfl | exact .inr rfl | assumption)
    (hs : ∀ x, foldedSetIterable iter X.env x = pure x := by intro _; rfl) : PS X (.Assign [.Name y py] (.ListComp elt [⟨tg, iter, ifs, 0⟩] scope pos) spos) (tAsg (tLC wi ts.length cap g tt te) (gName i)) := by
  intro pins s σ H D I h
  rw [exec_Assign_Name_used _ _ _ _ hsw]
  refine wpAny_bind (wpAny_standAt (wpAny_bind ?_))
  show wpAny _ X.A (do let _ ← comprehension (.ListComp elt [⟨tg, iter, ifs, 0⟩] scope pos) scope X.env _ (newList []) false (eval iter X.env) (some (assign (.Name y py) X.env))) _ _ s
  refine wpAny_bind (wpAny_mono (wpAny_comprehension_free (use := some (assign (.Name y py) X.env)) (Q := fun _ s' => SP X pins D .next s') rfl hs B.clos B.kind B.names
    (thn (hi pins s σ H _ I h) fun v s1 h1 => thn h1 fun itv s2 h2 => ?_)) (fun _ s' hq => wpAny_pure (wpAny_pure hq)) fun _ _ e => e)
  obtain ⟨it, fp, tn, J, H2, e, I2, T, st2, f2, hw⟩ := h2
  subst e
  refine run_blk (Q := fun x H1 => D.nx (σ.set i (some x)) H1) (RR := fun acc C => compPost (model X.prog X.w) X.A X.xe (some (assign (.Name y py) X.env)) (fun _ s' => SP X pins D .next s') acc C) B hc hg ht he I2 T st2 f2 hw ?_
  intro pl σ' H' s' I' q
  show wpAny _ X.A (assign (.Name y py) X.env (.ref s2.heap.objs.size)) _ _ _
  have I3 : Inv X pins σ H' s' := blk_out I2 f2 I' (Heap.SameBut.refl _ _)
  have hC : H' (s2.heap.objs.size + 1) = none := I'.free
  have cellLt : ∀ x c, X.env.cells.lookup x = some c → c < s2.heap.objs.size := fun x c e => by
    obtain ⟨v, q⟩ := I2.cell x c e
    exact q.lt
  refine wpAny_assign_Name (store_ok2 (v := .ref s2.heap.objs.size) I3 hN hiN hy rfl (fun s4 I4 ch => ?_) hfn)
  obtain ⟨a, sb, ha⟩ := ch
  have na : s2.heap.objs.size + 1 ≠ a := by
    rcases ha with z | z
    · rw [z]; exact Nat.ne_of_gt (Nat.lt_succ_of_lt I2.lt)
    · exact Nat.ne_of_gt (Nat.lt_succ_of_lt (cellLt y a z))
  obtain ⟨m, hn, _⟩ := I'.loc
  have hn : s'.heap.Ns (s2.heap.objs.size + 1) m := hn
  refine ⟨m, hn.sameBut sb na, fun h' hs' => ⟨_, H', I4.turned (t' := s4.toks) (it := s2.heap.objs.size + 1) (fun b o hb e => (hs'.2 b hb).trans e) hC (Nat.ne_of_gt (Nat.lt_succ_of_lt I2.lt)) (.inr (Nat.le_trans I2.sz (Nat.le_succ _))) (fun x c e => Nat.ne_of_lt (Nat.lt_succ_of_lt (cellLt x c e))) (fun p hp => ?_), q⟩⟩
  exact Nat.ne_of_lt (Nat.lt_succ_of_lt (Heap.lt_size (I2.pin p hp).1))
end

theorem lc_list {K : PySem.W.Frag} {a : Addr} {xs : List V} {g : TG} {tt : TT} {te : TE} {σ0 : St} {H : Hp} {D : Addr} {Qd : Hp → Prop} (Pv : Nat → St → List V → Hp → Prop) (h0 : Pv 0 σ0 [] (upd H D (.lst []))) (hl : ∀ i σ ys H, i ≤ xs.length → Pv i σ ys H → SqL K H a xs)
    (hs : ∀ i x σ ys H2, xs[i]? = some x → Pv i σ ys H2 → g x σ H2 fun σ4 H4 => tt σ4 H4 fun b H5 =>
      if b = true then te σ4 H5 fun y H6 => H6 D = some (.lst ys) ∧ ys.length < sizeLine ∧ Pv (i + 1) σ4 (ys ++ [y]) (upd H6 D (.lst (ys ++ [y])))
      else Pv (i + 1) σ4 ys H5)
    (hd : ∀ σ ys H, Pv xs.length σ ys H → Qd H) :
    ∃ W : Nat → Nat → St → List V → Hp → Prop, (∃ m, W 0 m σ0 [] (upd H D (.lst []))) ∧ ∀ i m σ' ys H2, W i m σ' ys H2 →
    ((Itl K a).stop i H2 ∧ Qd H2) ∨ ((Itl K a).go i H2 ∧ ∃ N : St → List V → Hp → Prop, (∀ σ ys H, N σ ys H → ∃ m', m' < m ∧ W (i + 1) m' σ ys H) ∧ ∀ x H3, (Itl K a).yld i H2 x H3 → g x σ' H3 fun σ4 H4 => tt σ4 H4 fun b H5 =>
      if b = true then te σ4 H5 fun y H6 => H6 D = some (.lst ys) ∧ ys.length < sizeLine ∧ N σ4 (ys ++ [y]) (upd H6 D (.lst (ys ++ [y])))
      else N σ4 ys H5) := by
  refine ⟨fun i m σ ys H => m = xs.length - i ∧ i ≤ xs.length ∧ Pv i σ ys H, ⟨xs.length, by simp, Nat.zero_le _, h0⟩, ?_⟩
  rintro i m σ ys H2 ⟨rfl, hi, p⟩
  have q := hl i σ ys H2 hi p
  by_cases hlt : i < xs.length
  · refine .inr ⟨⟨xs, xs[i], q, by simp [hlt]⟩, Pv (i + 1), fun σ' ys' H' p' => ⟨xs.length - (i + 1), by lia, rfl, hlt, p'⟩, fun x H3 y => ?_⟩
    obtain ⟨e, y⟩ := y
    subst e
    exact hs i x σ ys _ (y xs q) p
  · have e : i = xs.length := by lia
    subst e
    exact .inl ⟨⟨xs, q, Nat.le_refl _⟩, hd σ ys H2 p⟩
theorem lc_range {lo : Int} {n : Nat} {g : TG} {tt : TT} {te : TE} {σ0 : St} {H : Hp} {D : Addr} {Qd : Hp → Prop} (Pv : Nat → St → List V → Hp → Prop) (h0 : Pv 0 σ0 [] (upd H D (.lst [])))
    (hs : ∀ i σ ys H2, i < n → Pv i σ ys H2 → g (.int (lo + i)) σ H2 fun σ4 H4 => tt σ4 H4 fun b H5 =>
      if b = true then te σ4 H5 fun y H6 => H6 D = some (.lst ys) ∧ ys.length < sizeLine ∧ Pv (i + 1) σ4 (ys ++ [y]) (upd H6 D (.lst (ys ++ [y])))
      else Pv (i + 1) σ4 ys H5)
    (hd : ∀ σ ys H, Pv n σ ys H → Qd H) :
    ∃ W : Nat → Nat → St → List V → Hp → Prop, (∃ m, W 0 m σ0 [] (upd H D (.lst []))) ∧ ∀ i m σ' ys H2, W i m σ' ys H2 →
    ((Itr lo n).stop i H2 ∧ Qd H2) ∨ ((Itr lo n).go i H2 ∧ ∃ N : St → List V → Hp → Prop, (∀ σ ys H, N σ ys H → ∃ m', m' < m ∧ W (i + 1) m' σ ys H) ∧ ∀ x H3, (Itr lo n).yld i H2 x H3 → g x σ' H3 fun σ4 H4 => tt σ4 H4 fun b H5 =>
      if b = true then te σ4 H5 fun y H6 => H6 D = some (.lst ys) ∧ ys.length < sizeLine ∧ N σ4 (ys ++ [y]) (upd H6 D (.lst (ys ++ [y])))
      else N σ4 ys H5) := by
  refine ⟨fun i m σ ys H => m = n - i ∧ i ≤ n ∧ Pv i σ ys H, ⟨n, by simp, Nat.zero_le _, h0⟩, ?_⟩
  rintro i m σ ys H2 ⟨rfl, hi, p⟩
  by_cases hlt : i < n
  · refine .inr ⟨hlt, Pv (i + 1), fun σ' ys' H' p' => ⟨n - (i + 1), by lia, rfl, hlt, p'⟩, fun x H3 y => ?_⟩
    obtain ⟨e, y⟩ := y
    subst e y
    exact hs i σ ys _ hlt p
  · have e : i = n := by lia
    subst e
    exact .inl ⟨Nat.le_refl _, hd σ ys H2 p⟩
end L2

set_option Elab.async false
set_option linter.all false
set_option maxRecDepth 100000
set_option maxHeartbeats 4000000
namespace L2
open PySem PySem.Spec PyProof.Rows

structure EqOk (X : Cx) (d : Nat) {α : Type} [DecidableEq α] (M : Hp → V → α → Prop) : Prop where
  eq : ∀ (pins : List (Addr × Obj)) (σ : St) (H : Hp) (s : Shared) (A : Around) (x y : V) (a b : α) (u v : Value), Inv X pins σ H s → A.units + d < cLine → M H x a → M H y b → RelV x u → RelV y v → SeqAt.EqAt A s u v (decide (a = b))
  fn : ∀ (pins : List (Addr × Obj)) (σ : St) (H : Hp) (s : Shared) (x : V) (a b : α), Inv X pins σ H s → M H x a → M H x b → a = b
noncomputable def plainV : V → Bool
  | .non => true
  | .int _ => true
  | .str _ => true
  | _ => false
noncomputable def MFl (_ : Hp) (x a : V) : Prop := x = a ∧ plainV a = true
theorem plain_flat {x : V} (h : plainV x = true) : flatV x = true := by cases x <;> first | rfl | exact absurd (show false = true from h) Bool.false_ne_true
theorem eqV_plain {x y : V} (hx : plainV x = true) (hy : plainV y = true) : eqV x y = decide (x = y) := by
  cases x with
  | non => cases y with
    | non => rfl
    | int _ => rfl
    | str _ => rfl
    | _ => exact absurd (show false = true from hy) Bool.false_ne_true
  | int i => cases y with
    | non => rfl
    | int j => rw [dec_int]; rfl
    | str _ => rfl
    | _ => exact absurd (show false = true from hy) Bool.false_ne_true
  | str i => cases y with
    | non => rfl
    | int j => rfl
    | str j => rw [dec_str]; rfl
    | _ => exact absurd (show false = true from hy) Bool.false_ne_true
  | _ => exact absurd (show false = true from hx) Bool.false_ne_true
theorem EqOk.flat {X : Cx} : EqOk X 0 MFl where
  eq := fun pins σ H s A x y a b u v I hu hx hy rx ry => by
    obtain ⟨e1, p1⟩ := hx
    obtain ⟨e2, p2⟩ := hy
    subst e1; subst e2
    rw [← eqV_plain p1 p2]
    exact eqAt_V rx ry (plain_flat p1) (plain_flat p2)
  fn := fun pins σ H s x a b I h1 h2 => h1.1.symm.trans h2.1

section
variable {α : Type} [DecidableEq α]
theorem Paired.fn {β : Type} {F : β → α → Prop} (hf : ∀ x a b, F x a → F x b → a = b) {xs : List β} {as bs : List α} (h : Paired F xs as) (k : Paired F xs bs) : as = bs := by
  induction h generalizing bs with
  | nil => cases k; rfl
  | cons r t ih => cases k with
    | cons r' t' => rw [hf _ _ _ r r', ih t']
theorem Paired.get {β γ : Type} {F : β → γ → Prop} : ∀ {xs : List β} {as : List γ} {i : Nat} {x : β}, Paired F xs as → xs[i]? = some x → ∃ a, as[i]? = some a ∧ F x a
  | _, _, _, _, .nil, e => by simp at e
  | _, _, 0, _, .cons r _, e => by simp at e; subst e; exact ⟨_, rfl, r⟩
  | _, _, i + 1, x, .cons _ t, e => by
    obtain ⟨u, h1, h2⟩ := Paired.get (i := i) (x := x) t (by simpa using e)
    exact ⟨u, by simpa using h1, h2⟩
theorem Paired.getR {β γ : Type} {F : β → γ → Prop} : ∀ {xs : List β} {as : List γ} {i : Nat} {a : γ}, Paired F xs as → as[i]? = some a → ∃ x, xs[i]? = some x ∧ F x a
  | _, _, _, _, .nil, e => by simp at e
  | _, _, 0, _, .cons r _, e => by simp at e; subst e; exact ⟨_, rfl, r⟩
  | _, _, i + 1, x, .cons _ t, e => by
    obtain ⟨u, h1, h2⟩ := Paired.getR (i := i) (a := x) t (by simpa using e)
    exact ⟨u, by simpa using h1, h2⟩
theorem all_eq {as bs : List α} (h : as.length = bs.length) : ((List.range as.length).all fun j => decide (as[j]? = bs[j]?)) = decide (as = bs) := by
  rw [Bool.eq_iff_iff, List.all_eq_true]
  constructor
  · intro q
    refine decide_eq_true (List.ext_getElem? fun i => ?_)
    by_cases hi : i < as.length
    · exact of_decide_eq_true (q i (List.mem_range.mpr hi))
    · rw [List.getElem?_eq_none (by lia), List.getElem?_eq_none (by lia)]
  · intro q i _
    rw [of_decide_eq_true q]
    exact decide_eq_true rfl
theorem all_eqMin {as bs : List α} : (((List.range (min as.length bs.length)).all fun j => decide (as[j]? = bs[j]?)) && as.length == bs.length) = decide (as = bs) := by
  by_cases h : as.length = bs.length
  · have e : min as.length bs.length = as.length := by lia
    rw [e, all_eq h, h]
    simp
  · have n : ¬ as = bs := fun e => h (by rw [e])
    rw [decide_eq_false n]
    have : (as.length == bs.length) = false := by simpa using h
    rw [this, Bool.and_false]
end

noncomputable def MTup {α : Type} (K : PySem.W.Frag) (M : Hp → V → α → Prop) (H : Hp) (x : V) (as : List α) : Prop := ∃ p xs, x = .ref p ∧ SqT K H p xs ∧ Paired (M H) xs as
noncomputable def MLst {α : Type} (K : PySem.W.Frag) (M : Hp → V → α → Prop) (H : Hp) (x : V) (as : List α) : Prop := ∃ p xs, x = .ref p ∧ SqL K H p xs ∧ Paired (M H) xs as

section
variable {X : Cx} {d : Nat} {α : Type} [DecidableEq α] {M : Hp → V → α → Prop}
theorem EqOk.items (E : EqOk X d M) {pins : List (Addr × Obj)} {σ : St} {H : Hp} {s : Shared} {A : Around} {xs ys : List V} {as bs : List α} {us vs : List Value} (I : Inv X pins σ H s) (hu : A.units + (d + 1) < cLine) (r1 : Vals xs us) (r2 : Vals ys vs) (m1 : Paired (M H) xs as) (m2 : Paired (M H) ys bs) :
    ∀ j (h1 : j < us.toArray.size) (h2 : j < vs.toArray.size), SeqAt.EqAt A.in1 s us.toArray[j] vs.toArray[j] (decide (as[j]? = bs[j]?)) := by
  intro j h1 h2
  have l1 := r1.length
  have l2 := r2.length
  have h1' : j < us.length := by simpa using h1
  have h2' : j < vs.length := by simpa using h2
  obtain ⟨u, eu, ru⟩ := r1.get (i := j) (x := xs[j]'(by lia)) (by simp)
  obtain ⟨v, ev, rv⟩ := r2.get (i := j) (x := ys[j]'(by lia)) (by simp)
  obtain ⟨a, ea, ma⟩ := Paired.get (i := j) (x := xs[j]'(by lia)) m1 (by simp)
  obtain ⟨b, eb, mb⟩ := Paired.get (i := j) (x := ys[j]'(by lia)) m2 (by simp)
  have e1 : us.toArray[j] = u := by
    have : us[j]? = some us[j] := List.getElem?_eq_getElem h1'
    rw [this] at eu
    simpa using Option.some.inj eu
  have e2 : vs.toArray[j] = v := by
    have : vs[j]? = some vs[j] := List.getElem?_eq_getElem h2'
    rw [this] at ev
    simpa using Option.some.inj ev
  have e3 : decide (as[j]? = bs[j]?) = decide (a = b) := by
    rw [ea, eb]
    exact decide_eq_decide.mpr ⟨fun q => Option.some.inj q, fun q => congrArg some q⟩
  rw [e1, e2, e3]
  exact E.eq pins σ H s A.in1 _ _ a b u v I (by show A.units + 1 + d < cLine; lia) ma mb ru rv
theorem EqOk.rcT (E : EqOk X d M) {pins : List (Addr × Obj)} {σ : St} {H : Hp} {s : Shared} {A : Around} {p q : Addr} {xs ys : List V} {as bs : List α} (I : Inv X pins σ H s) (hu : A.units + (d + 1) < cLine) (h1 : SqT X.K H p xs) (h2 : SqT X.K H q ys) (m1 : Paired (M H) xs as) (m2 : Paired (M H) ys bs) :
    SeqAt.RcAt A s (.ref p) (.ref q) (decide (as = bs)) ∧ SeqAt.RcNeAt A s (.ref p) (.ref q) (!decide (as = bs)) := by
  obtain ⟨us, r1, t1, _⟩ := I.tuple h1
  obtain ⟨vs, r2, t2, _⟩ := I.tuple h2
  have it := E.items I hu r1 r2 m1 m2
  have l1 : us.toArray.size = as.length := by rw [List.size_toArray, ← r1.length, Paired.length m1]
  have l2 : vs.toArray.size = bs.length := by rw [List.size_toArray, ← r2.length, Paired.length m2]
  have z1 := SeqAt.RcAt.tuples (A := A) (s := s) (show s.heap.IsTuple p us.toArray from t1) (show s.heap.IsTuple q vs.toArray from t2) (by lia) it
  have z2 := SeqAt.RcNeAt.tuples (A := A) (s := s) (show s.heap.IsTuple p us.toArray from t1) (show s.heap.IsTuple q vs.toArray from t2) (by lia) it
  rw [l1, l2, all_eqMin] at z1 z2
  exact ⟨z1, z2⟩
theorem EqOk.rcL (E : EqOk X d M) {pins : List (Addr × Obj)} {σ : St} {H : Hp} {s : Shared} {A : Around} {p q : Addr} {xs ys : List V} {as bs : List α} (I : Inv X pins σ H s) (hu : A.units + (d + 1) < cLine) (h1 : SqL X.K H p xs) (h2 : SqL X.K H q ys) (m1 : Paired (M H) xs as) (m2 : Paired (M H) ys bs) :
    SeqAt.RcAt A s (.ref p) (.ref q) (decide (as = bs)) ∧ SeqAt.RcNeAt A s (.ref p) (.ref q) (!decide (as = bs)) := by
  obtain ⟨us, r1, t1, _⟩ := I.list h1
  obtain ⟨vs, r2, t2, _⟩ := I.list h2
  have it := E.items I hu r1 r2 m1 m2
  have l1 : us.toArray.size = as.length := by rw [List.size_toArray, ← r1.length, Paired.length m1]
  have l2 : vs.toArray.size = bs.length := by rw [List.size_toArray, ← r2.length, Paired.length m2]
  by_cases h : as.length = bs.length
  · have z1 := SeqAt.RcAt.lists (A := A) (s := s) t1.isList t2.isList (by rw [l1, l2, h]) (by lia) it
    have z2 := SeqAt.RcNeAt.lists (A := A) (s := s) t1.isList t2.isList (by rw [l1, l2, h]) (by lia) it
    rw [l1, all_eq h] at z1 z2
    exact ⟨z1, z2⟩
  · have n : ¬ as = bs := fun e => h (by rw [e])
    rw [decide_eq_false n]
    exact ⟨SeqAt.RcAt.lists_lengths t1.isList t2.isList (by rw [l1, l2]; simpa using h) (by lia), SeqAt.RcNeAt.lists_lengths t1.isList t2.isList (by rw [l1, l2]; simpa using h) (by lia)⟩
theorem EqOk.tup (E : EqOk X d M) : EqOk X (d + 1) (MTup X.K M) where
  eq := fun pins σ H s A x y as bs u v I hu hx hy rx ry => by
    obtain ⟨p, xs, e1, h1, m1⟩ := hx
    obtain ⟨q, ys, e2, h2, m2⟩ := hy
    subst e1; subst e2
    cases rx; cases ry
    by_cases e : p = q
    · subst e
      have ex := I.tuple_inj h1 h2
      subst ex
      have ea := Paired.fn (fun x a b => E.fn pins σ H s x a b I) m1 m2
      rw [decide_eq_true ea]
      exact SeqAt.EqAt.same _
    · exact SeqAt.EqAt.of_refs e (E.rcT I hu h1 h2 m1 m2).1
  fn := fun pins σ H s x as bs I hx hy => by
    obtain ⟨p, xs, e1, h1, m1⟩ := hx
    obtain ⟨q, ys, e2, h2, m2⟩ := hy
    subst e1
    cases e2
    have ex := I.tuple_inj h1 h2
    subst ex
    exact Paired.fn (fun x a b => E.fn pins σ H s x a b I) m1 m2
theorem EqOk.lst (E : EqOk X d M) : EqOk X (d + 1) (MLst X.K M) where
  eq := fun pins σ H s A x y as bs u v I hu hx hy rx ry => by
    obtain ⟨p, xs, e1, h1, m1⟩ := hx
    obtain ⟨q, ys, e2, h2, m2⟩ := hy
    subst e1; subst e2
    cases rx; cases ry
    by_cases e : p = q
    · subst e
      have ex := I.list_inj h1 h2
      subst ex
      have ea := Paired.fn (fun x a b => E.fn pins σ H s x a b I) m1 m2
      rw [decide_eq_true ea]
      exact SeqAt.EqAt.same _
    · exact SeqAt.EqAt.of_refs e (E.rcL I hu h1 h2 m1 m2).1
  fn := fun pins σ H s x as bs I hx hy => by
    obtain ⟨p, xs, e1, h1, m1⟩ := hx
    obtain ⟨q, ys, e2, h2, m2⟩ := hy
    subst e1
    cases e2
    have ex := I.list_inj h1 h2
    subst ex
    exact Paired.fn (fun x a b => E.fn pins σ H s x a b I) m1 m2
inductive rEqMP (M : Hp → V → α → Prop) (x : V) (y : V) (H : Hp) (Q : VK) : Prop
  | mk (a : _) (b : _) (h_0 : M H x a) (h_1 : M H y b) (h_2 : Q (.bl (decide (a = b))) H)
noncomputable def rEqM (M : Hp → V → α → Prop) : R2 := fun x y H Q => rEqMP M x y H Q
theorem op_eqT (E : EqOk X d M) (hu : X.A.units + (d + 1) < cLine) : OpR X (compareOp .Eq) (rEqM (MTup X.K M)) := by
  intro pins s σ H x y v u Q I rx ry h
  obtain ⟨as, bs, ⟨p, xs, e1, h1, m1⟩, ⟨q, ys, e2, h2, m2⟩, hq⟩ := h
  subst e1; subst e2
  cases rx; cases ry
  exact (E.rcT I hu h1 h2 m1 m2).1 _ _ _ _ ⟨.bl _, H, I, rfl, hq⟩
theorem op_eqL (E : EqOk X d M) (hu : X.A.units + (d + 1) < cLine) : OpR X (compareOp .Eq) (rEqM (MLst X.K M)) := by
  intro pins s σ H x y v u Q I rx ry h
  obtain ⟨as, bs, ⟨p, xs, e1, h1, m1⟩, ⟨q, ys, e2, h2, m2⟩, hq⟩ := h
  subst e1; subst e2
  cases rx; cases ry
  exact (E.rcL I hu h1 h2 m1 m2).1 _ _ _ _ ⟨.bl _, H, I, rfl, hq⟩

open Classical in
noncomputable def meanIs (M : Hp → V → α → Prop) (H : Hp) (a : α) (u : Value) : Bool := decide (∃ z, RelV z u ∧ M H z a)
theorem meanIs_of (E : EqOk X d M) {pins : List (Addr × Obj)} {σ : St} {H : Hp} {s : Shared} (I : Inv X pins σ H s) {a b : α} {x : V} {u : Value} (r : RelV x u) (m : M H x b) : meanIs M H a u = decide (b = a) := by
  unfold meanIs
  by_cases e : b = a
  · subst e
    rw [decide_eq_true (p := b = b) rfl]
    exact @decide_eq_true _ (_) ⟨x, r, m⟩
  · rw [decide_eq_false e]
    refine @decide_eq_false _ (_) ?_
    rintro ⟨z, rz, mz⟩
    have : z = x := rz.inj r
    subst this
    exact e (E.fn pins σ H s z b a I m mz)
theorem meanIs_any (E : EqOk X d M) {pins : List (Addr × Obj)} {σ : St} {H : Hp} {s : Shared} (I : Inv X pins σ H s) {a : α} {xs : List V} {us : List Value} {as : List α} (rv : Vals xs us) (mv : Paired (M H) xs as) : us.any (meanIs M H a) = decide (a ∈ as) ∧ us.countP (meanIs M H a) = as.countP fun b => decide (b = a) := by
  induction rv generalizing as with
  | nil => cases mv; exact ⟨by simp, rfl⟩
  | cons r rr ih => cases mv with
   | cons m mm =>
    obtain ⟨h1, h2⟩ := ih mm
    have e := meanIs_of E I (a := a) r m
    constructor
    · rw [List.any_cons, h1, e, Bool.eq_iff_iff]
      simp only [Bool.or_eq_true, decide_eq_true_eq, List.mem_cons]
      exact ⟨fun q => q.elim (fun q => .inl q.symm) .inr, fun q => q.elim (fun q => .inl q.symm) .inr⟩
    · rw [List.countP_cons, List.countP_cons, h2, e]
theorem meanIs_at (E : EqOk X d M) {pins : List (Addr × Obj)} {σ : St} {H : Hp} {s : Shared} (I : Inv X pins σ H s) {A : Around} (hu : A.units + d < cLine) {a : α} {y : V} {v : Value} (ry : RelV y v) (my : M H y a) {xs : List V} {us : List Value} {as : List α} (rv : Vals xs us) (mv : Paired (M H) xs as) : ∀ u ∈ us, SeqAt.EqAt A s u v (meanIs M H a u) := by
  induction rv generalizing as with
  | nil => intro u hu; cases hu
  | @cons x u xs us r rr ih => cases mv with
   | @cons _ b _ as m mm =>
    intro u' hu'
    rcases List.mem_cons.mp hu' with e | e
    · subst e
      rw [meanIs_of E I (a := a) r m]
      exact E.eq pins σ H s A x y b a _ v I hu m my r ry
    · exact ih mm u' e
inductive rInMP (K : PySem.W.Frag) (M : Hp → V → α → Prop) (neg : Bool) (x : V) (y : V) (H : Hp) (Q : VK) : Prop
  | mk (a : _) (as : _) (h_0 : M H x a) (h_1 : MLst K M H y as) (h_2 : Q (.bl (if neg then !decide (a ∈ as) else decide (a ∈ as))) H)
noncomputable def rInM (K : PySem.W.Frag) (M : Hp → V → α → Prop) (neg : Bool) : R2 := fun x y H Q => rInMP K M neg x y H Q
theorem op_inM (E : EqOk X d M) (hu : X.A.units + (d + 1) < cLine) : OpR X (compareOp .In) (rInM X.K M false) := by
  intro pins s σ H x y v u Q I rx ry h
  obtain ⟨a, as, mx, ⟨p, xs, e1, h1, m1⟩, hq⟩ := h
  subst e1
  cases ry
  obtain ⟨us, r1, t1, _⟩ := I.list h1
  refine SeqAt.in_listAt (meanIs M H a) t1.isList (fun y hy => ?_) ?_
  · exact meanIs_at E I (A := X.A.in1) (by show X.A.units + 1 + d < cLine; lia) rx mx r1 m1 y (by simpa using hy)
  · refine ⟨.bl (decide (a ∈ as)), H, I, ?_, hq⟩
    show Value.bool _ = Value.bool _
    rw [← (meanIs_any E I (a := a) r1 m1).1]
    simp
theorem op_notInM (E : EqOk X d M) (hu : X.A.units + (d + 1) < cLine) : OpR X (compareOp .NotIn) (rInM X.K M true) := by
  intro pins s σ H x y v u Q I rx ry h
  obtain ⟨a, as, mx, ⟨p, xs, e1, h1, m1⟩, hq⟩ := h
  subst e1
  cases ry
  obtain ⟨us, r1, t1, _⟩ := I.list h1
  refine SeqAt.notIn_listAt (meanIs M H a) t1.isList (fun y hy => ?_) ?_
  · exact meanIs_at E I (A := X.A.in1) (by show X.A.units + 1 + d < cLine; lia) rx mx r1 m1 y (by simpa using hy)
  · refine ⟨.bl (!decide (a ∈ as)), H, I, ?_, hq⟩
    show Value.bool _ = Value.bool _
    rw [← (meanIs_any E I (a := a) r1 m1).1]
    simp
inductive rCountMP (K : PySem.W.Frag) (M : Hp → V → α → Prop) (x : V) (vs : List V) (H : Hp) (Q : VK) : Prop
  | mk (y : _) (a : _) (as : _) (h_0 : vs = [y]) (h_1 : M H y a) (h_2 : MLst K M H x as) (h_3 : Q (.int (as.countP fun b => decide (b = a) : Nat)) H)
noncomputable def rCountM (K : PySem.W.Frag) (M : Hp → V → α → Prop) : V → List V → Hp → VK → Prop := fun x vs H Q => rCountMP K M x vs H Q
theorem mt_count (E : EqOk X d M) (hu : X.A.units + (d + 1) < cLine) : MtM X "list.count" (rCountM X.K M) := by
  intro pins s σ H x vs v us Q I rx rv h
  obtain ⟨y, a, as, e0, my, ⟨p, xs, e1, h1, m1⟩, hq⟩ := h
  subst e0; subst e1
  cases rx
  obtain ⟨u, e2, ry⟩ := rv.one
  subst e2
  obtain ⟨ws, r1, ⟨o, n, ho, hc, hdd, hd⟩, _⟩ := I.list h1
  obtain ⟨cls, dct, data, sl⟩ := o
  simp only at hc hd hdd
  subst hc hd hdd
  refine call_meets F.slot_list_count ⟨_, ho, rfl⟩ F.entry_list_count (F.args_list_count_2 _ _) (SeqAt.list_countAt p ws.toArray n none sl u (meanIs M H a)) ⟨ho, fun y hy => ?_, ?_⟩
  · exact meanIs_at E I (by show _ + _ < cLine; first | (show X.A.units + 1 + d < cLine; lia) | (show X.A.units + 1 + 1 + d < cLine; lia)) ry my r1 m1 y (by simpa using hy)
  · refine ⟨.int (as.countP fun b => decide (b = a) : Nat), H, I.tok _, ⟨s.toks, ?_⟩, hq⟩
    show Value.int _ _ = Value.int _ _
    rw [← (meanIs_any E I (a := a) r1 m1).2]
end

noncomputable def Itk (a : Addr) (o : Obj) (kvs : List (Key × V)) : It := ⟨fun i H => i < kvs.length ∧ H a = some (.frz o (.dK kvs)), fun i H x H' => H' = H ∧ ∃ p, kvs[i]? = some p ∧ x = kV p.1, fun i H => kvs.length ≤ i ∧ H a = some (.frz o (.dK kvs))⟩
theorem kV_of {P : Program} {w : World} {k : Key} {u : Value} (h : (mixKind P w).is k u = true) : RelV (kV k) u := by
  rcases keyIs_shape h with ⟨i, t, rfl, rfl⟩ | ⟨x, t, rfl, rfl⟩
  · exact ⟨t, rfl⟩
  · exact ⟨t, rfl⟩
theorem KV.getR {kvs : List (Key × V)} {vs : List (Key × Value)} (r : KV kvs vs) {i : Nat} {p : Key × V} (e : kvs[i]? = some p) : ∃ q, vs[i]? = some q ∧ q.1 = p.1 := by
  obtain ⟨q, h1, h2⟩ := Paired.get (F := fun (p : Key × V) (q : Key × Value) => p.1 = q.1 ∧ RelV p.2 q.2) r e
  exact ⟨q, h1, h2.1.symm⟩
theorem dictAt_of {P : Program} {w : World} {h : Heap} {a : Addr} {o : Obj} {es : Array DictEntry} {ep : Nat} {vs : List (Key × Value)} (ho : h.get? a = some o) (hd : o.data = .dict es ep) (D : h.DictOf (mixKind P w) a vs) : h.DictAt (mixKind P w) a vs ep := by
  obtain ⟨o', es', ep', h1, h2, h3, h4⟩ := D
  rw [ho] at h1
  cases h1
  rw [hd] at h3
  cases h3
  exact ⟨o, es, ho, h2, hd, h4⟩
theorem turn_dkeys {P : Program} {w : World} {K : PySem.W.Frag} {tg : Expr} (a it : Addr) (o : Obj) (es : Array DictEntry) (ep : Nat) (hd : o.data = .dict es ep) (kvs : List (Key × V)) : Turn P w K tg (Itk a o kvs) [it] it (fun i h => h.IsKeyIter it a i kvs.length ep) where
  mem := by simp
  obj := fun i h st b hb => by
    have e : b = it := by simpa using hb
    subst e
    obtain ⟨o, e, c, d⟩ := st
    exact ⟨o, e, fun v z => by rw [d] at z; cases z⟩
  keep := fun i h h' st k => st.at fun o e => k it (by simp) o e
  item := by
    intro X hP hw hK hc i pins s σ H E I hf st hg
    subst hP hw hK
    obtain ⟨hi, hH⟩ := hg
    obtain ⟨ho, _, _, vs, rel, dd⟩ := (show ObjOk X.prog X.w H s.heap a (.frz o (.dK kvs)) from I.hok a _ hH)
    have hl := rel.length
    obtain ⟨q, hq, hq1⟩ := rel.getR (i := i) (p := kvs[i]) (by simp)
    obtain ⟨f0, f1, f2, f3, f4, f5⟩ := hf it (by simp)
    refine wpAny_pyNext_dict_item (k := q.1) (v := q.2) (kvs := vs) (hl ▸ st) (dictAt_of ho hd dd) hq fun key h' hk st' sb => ?_
    have I1 : Inv X pins σ H { s with heap := h' } := I.turned (t' := s.toks) (fun b o hb e => (sb.2 b hb).trans e) f0 f1 f3 f4 f5
    obtain ⟨oi, e, c, d⟩ := id st'
    refine ⟨key, rfl, go_of (s := { s with heap := h' }) e c d (by decide) ⟨kV kvs[i].1, H, I1, ?_, ⟨rfl, kvs[i], by simp, rfl⟩, hl ▸ st', fun b hb => (hf b hb).1⟩⟩
    rw [← hq1]
    exact kV_of hk
  done := by
    intro X hP hw hK hc i pins s σ H E I hf st hg
    subst hP hw hK
    obtain ⟨hi, hH⟩ := hg
    obtain ⟨ho, _, _, vs, rel, dd⟩ := (show ObjOk X.prog X.w H s.heap a (.frz o (.dK kvs)) from I.hok a _ hH)
    have hl := rel.length
    obtain ⟨f0, f1, f2, f3, f4, f5⟩ := hf it (by simp)
    exact wpAny_pyNext_dict_end (kvs := vs) (I.ok.hd hc) (hl ▸ st) (dictAt_of ho hd dd) (List.getElem?_eq_none (by lia)) fun h' eb => ⟨rfl, I.turned (t' := s.toks) (fun b o hb e => eb b o hb e) f0 f1 f3 f4 f5⟩
  self := fun _ _ _ _ _ st h => wpAny_pyIter_keyiter st h
section
variable {X : Cx} {tg : Expr}
theorem Inv.freeze {pins : List (Addr × Obj)} {σ : St} {H : Hp} {s : Shared} {a : Addr} {kvs : List (Key × V)} {o : Obj} (I : Inv X pins σ H s) (e : H a = some (.dK kvs)) (ho : s.heap.get? a = some o) : Inv X pins σ (upd H a (.frz o (.dK kvs))) s := by
  have nt : ∀ b u, H b = some u → (∀ z, u ≠ .dK z) → b ≠ a := fun b u q n z => by rw [z, e] at q; cases q; exact n _ rfl
  refine I.un (t' := s.toks) (h' := s.heap) ⟨fun b u q _ _ _ => q, fun b u q _ _ _ => ⟨u.slots, q⟩, fun b u q n _ => ?_, fun b u q _ => ⟨u, q⟩, fun b xs q => ?_, fun b u v q => ?_, fun b ps q => ⟨#[], ?_⟩⟩ (fun b u q => ?_)
  · rw [upd_ne (by rintro rfl; rw [n] at e; cases e)]; exact n
  · rw [upd_ne (nt b _ q (fun _ z => nomatch z))]; exact q
  · rw [upd_ne (nt b _ q (fun _ z => nomatch z))]; exact q
  · rw [upd_ne (nt b _ q (fun _ z => nomatch z)), q]; simp
  · by_cases hb : b = a
    · subst hb
      rw [upd_same] at q
      cases q
      refine ⟨ho, (I.hok _ _ e).stay (fun _ _ _ q => q) (fun c q => ?_) fun c xs q => ?_⟩
      · rw [upd_ne (nt c _ q (fun _ z => nomatch z))]; exact q
      · rw [upd_ne (nt c _ q (fun _ z => nomatch z))]; exact q
    · rw [upd_ne hb] at q
      refine (I.hok _ _ q).stay (fun _ _ _ q => q) (fun c q => ?_) fun c xs q => ?_
      · rw [upd_ne (nt c _ q (fun _ z => nomatch z))]; exact q
      · rw [upd_ne (nt c _ q (fun _ z => nomatch z))]; exact q
noncomputable def iDK (td : TE) : TI := fun σ H R => td σ H fun x H1 => ∃ a kvs, x = .ref a ∧ H1 a = some (.dK kvs) ∧ ∀ o, R (Itk a o kvs) (upd H1 a (.frz o (.dK kvs)))
theorem pi_dkeys {l : Expr} {tl : TE} (hl : PE X l tl) : PI X tg l (iDK tl) := by
  intro pins s σ H R I h
  refine thn (hl pins s σ H _ I h) fun v s1 z_ => ?_
  obtain ⟨x, H1, I1, r1, q1⟩ := z_
  obtain ⟨a, kvs, e, hH, q⟩ := q1
  subst e
  cases r1
  obtain ⟨_, hsys, vs, rel, dd⟩ := dk_of I1.hok hH
  obtain ⟨o, es, ep, ho, h2, h3, h4⟩ := id dd
  have I2 := I1.freeze hH ho
  refine wpAny_pyIter_dict hsys (dictAt_of ho h3 dd) ?_
  refine ⟨s1.heap.objs.size, [s1.heap.objs.size], _, _, upd H1 a (.frz o (.dK kvs)), rfl, I2.kept (t' := s1.toks) fun b o e => Heap.get?_push_of_some _ e, turn_dkeys a _ o es ep h3 kvs, ⟨_, Heap.get?_push_size _ rfl, rfl, ?_⟩, fun b hb => ?_, q o⟩
  · rw [rel.length]; rfl
  · have e : b = s1.heap.objs.size := by simpa using hb
    subst e
    exact I2.fpOk (Nat.le_refl _) (I2.hok.fresh (Nat.le_refl _))
end
theorem for_dkeys {a : Addr} {o : Obj} {kvs : List (Key × V)} {g : TG} {tb : TS} {D : Ends} {σ : St} {H : Hp} (Pv : Nat → St → Hp → Prop) (h0 : Pv 0 σ H) (hl : ∀ i σ H, i ≤ kvs.length → Pv i σ H → H a = some (.frz o (.dK kvs)))
    (hs : ∀ i p σ H, kvs[i]? = some p → Pv i σ H → g (kV p.1) σ H fun σ2 H2 => tb (D.lp (Pv (i + 1))) σ2 H2) (hd : ∀ σ H, Pv kvs.length σ H → D.nx σ H) :
    ∃ W : Nat → Nat → St → Hp → Prop, (∃ m, W 0 m σ H) ∧ ∀ i m σ H, W i m σ H →
      ((Itk a o kvs).stop i H ∧ D.nx σ H) ∨ ((Itk a o kvs).go i H ∧ ∃ N : St → Hp → Prop, (∀ σ' H', N σ' H' → ∃ m', m' < m ∧ W (i + 1) m' σ' H') ∧ ∀ x H', (Itk a o kvs).yld i H x H' → g x σ H' fun σ2 H2 => tb (D.lp N) σ2 H2) := by
  refine ⟨fun i m σ H => m = kvs.length - i ∧ i ≤ kvs.length ∧ Pv i σ H, ⟨kvs.length, by simp, Nat.zero_le _, h0⟩, ?_⟩
  rintro i m σ H ⟨rfl, hi, p⟩
  have q := hl i σ H hi p
  by_cases hlt : i < kvs.length
  · refine .inr ⟨⟨hlt, q⟩, Pv (i + 1), fun σ' H' p' => ⟨kvs.length - (i + 1), by lia, rfl, hlt, p'⟩, fun x H' y => ?_⟩
    obtain ⟨e, z, e1, e2⟩ := y
    subst e; subst e2
    exact hs i z σ _ e1 p
  · have e : i = kvs.length := by lia
    subst e
    exact .inl ⟨⟨Nat.le_refl _, q⟩, hd σ H p⟩

end L2

set_option Elab.async false
set_option linter.all false
set_option maxRecDepth 100000
set_option maxHeartbeats 4000000
namespace L2
open PySem PySem.Spec PyProof.Rows
noncomputable def clOf (env : Env) (names : List (Str × NameKind)) (acc : List (Str × Addr)) : List (Str × Addr) := names.foldl (fun cs p => if (p.2 == NameKind.free) = true then (p.1, (env.cells.lookup p.1).getD 0) :: cs else cs) acc
theorem closureFor_caps {scope : Scope} {env : Env} (h : ∀ y ∈ scope.names, y.2 = .free → ∃ c, env.cells.lookup y.1 = some c) : closureFor scope env = pure (clOf env scope.names []) := by
  simp only [closureFor]
  generalize ([] : List (Str × Addr)) = acc
  generalize scope.names = names at h
  induction names generalizing acc with
  | nil => simp [clOf]
  | cons p names ih =>
    obtain ⟨n, k⟩ := p
    have h' := fun y hy => h y (List.mem_cons_of_mem _ hy)
    rw [List.forIn_cons]
    cases e : (k == NameKind.free) with
    | false =>
      simp only [Bool.false_eq_true, if_false, pure_bind]
      rw [ih acc h']
      show pure _ = pure (clOf env names (if (k == NameKind.free) = true then (n, (env.cells.lookup n).getD 0) :: acc else acc))
      rw [e, if_neg Bool.false_ne_true]
    | true =>
      obtain ⟨c, hc⟩ := h (n, k) List.mem_cons_self (by simpa using e)
      have hc : env.cells.lookup n = some c := hc
      have ec : cellOf env n = pure c := by unfold cellOf; rw [hc]
      simp only [if_true, ec, pure_bind]
      rw [ih _ h']
      show pure _ = pure (clOf env names (if (k == NameKind.free) = true then (n, (env.cells.lookup n).getD 0) :: acc else acc))
      rw [e, if_pos rfl, hc]
      rfl
theorem clOf_mem {env : Env} {y : Str} {c : Addr} : ∀ {names : List (Str × NameKind)} {acc : List (Str × Addr)}, (y, c) ∈ clOf env names acc → (y, c) ∈ acc ∨ ((y, NameKind.free) ∈ names ∧ c = (env.cells.lookup y).getD 0)
  | [], _, h => .inl h
  | (n, k) :: names, acc, h => by
    have h : (y, c) ∈ clOf env names (if (k == NameKind.free) = true then (n, (env.cells.lookup n).getD 0) :: acc else acc) := h
    rcases clOf_mem h with z | ⟨z, e⟩
    · split at z
      · rename_i hk
        rcases List.mem_cons.mp z with z | z
        · injection z with z1 z2
          have hk : k = .free := by simpa using hk
          subst z1
          rw [hk]
          exact .inr ⟨List.mem_cons_self, z2⟩
        · exact .inl z
      · exact .inl z
    · exact .inr ⟨List.mem_cons_of_mem _ z, e⟩
theorem clOf_acc {env : Env} {p : Str × Addr} : ∀ {names : List (Str × NameKind)} {acc : List (Str × Addr)}, p ∈ acc → p ∈ clOf env names acc
  | [], _, h => h
  | (n, k) :: names, acc, h => by
    show p ∈ clOf env names (if (k == NameKind.free) = true then (n, (env.cells.lookup n).getD 0) :: acc else acc)
    refine clOf_acc ?_
    split
    · exact List.mem_cons_of_mem _ h
    · exact h
theorem clOf_has {env : Env} {y : Str} : ∀ {names : List (Str × NameKind)} {acc : List (Str × Addr)}, (y, NameKind.free) ∈ names → ∃ c, (y, c) ∈ clOf env names acc
  | (n, k) :: names, acc, h => by
    rcases List.mem_cons.mp h with z | z
    · injection z with z1 z2
      subst z1; subst z2
      refine ⟨(env.cells.lookup y).getD 0, ?_⟩
      show _ ∈ clOf env names (if (NameKind.free == NameKind.free) = true then (y, (env.cells.lookup y).getD 0) :: acc else acc)
      exact clOf_acc (by rw [if_pos (by rfl)]; exact List.mem_cons_self)
    · exact clOf_has (names := names) z
theorem lookup_some {α : Type} {x : Str} {v : α} : ∀ {l : List (Str × α)}, (x, v) ∈ l → ∃ u, l.lookup x = some u
  | (y, u) :: r, h => by
    rw [List.lookup_cons]
    cases e : x == y with
    | true => exact ⟨_, rfl⟩
    | false =>
      rcases List.mem_cons.mp h with z | z
      · injection z with z1 _
        rw [z1, beq_self_eq_true] at e
        cases e
      · exact lookup_some z
theorem lookup_relabel_free {env : Env} : ∀ {names : List (Str × NameKind)} {x : Str}, names.lookup x = some .free →
    (names.map fun (n, k) => if (k == NameKind.free && env.scope.kind == .function && env.kindOf n == some .cell) then (n, NameKind.cell) else (n, k)).lookup x = some .cell ∨
    (names.map fun (n, k) => if (k == NameKind.free && env.scope.kind == .function && env.kindOf n == some .cell) then (n, NameKind.cell) else (n, k)).lookup x = some .free
  | [], _, h => by simp at h
  | (n, k) :: r, x, h => by
    have ih := @lookup_relabel_free env r x
    rw [List.lookup_cons] at h
    rw [List.map_cons]
    cases e : x == n with
    | true =>
      rw [e] at h
      have hk : k = .free := Option.some.inj h
      subst hk
      dsimp only
      split
      · left; rw [List.lookup_cons, e]
      · right; rw [List.lookup_cons, e]
    | false =>
      rw [e] at h
      dsimp only
      split
      · rw [List.lookup_cons, e]; exact ih h
      · rw [List.lookup_cons, e]; exact ih h
theorem Blk.caps {X : Cx} {scope : Scope} {ts : List Str} {cap : Cap} (hX : ∀ y, (X.env.kindOf y = some .cell ∨ X.env.kindOf y = some .free) → ∃ c, X.env.cells.lookup y = some c)
    (hfree : ∀ y ∈ scope.names, y.2 = .free → (X.env.kindOf y.1 = some .cell ∨ X.env.kindOf y.1 = some .free)) (ncell : ∀ y ∈ scope.names, y.2 ≠ .cell) (kind : scope.kind = .function) (names : ∀ y ∈ scope.names, y.2 = .local → scope.names.lookup y.1 = some .local)
    (hcap : ∀ (k j : Nat) (y : Str), cap[k]? = some (j, y) → X.N[j]? = some y ∧ scope.names.lookup y = some .free) : Blk X scope ts cap (clOf X.env scope.names []) where
  clos := closureFor_caps fun y hy hk => hX _ (hfree y hy hk)
  ncell := ncell
  kind := kind
  names := names
  sub := fun y c e => by
    rcases clOf_mem (lookup_mem e) with z | ⟨z, hc⟩
    · cases z
    · obtain ⟨d, hd⟩ := hX _ (hfree _ z rfl)
      have hd : X.env.cells.lookup y = some d := hd
      rw [hd] at hc ⊢
      rw [hc]
      rfl
  has := fun y h => by
    have hm : (y, NameKind.free) ∈ scope.names := by
      have gen : ∀ (v : NameKind), (v = .cell ∨ v = .free) → (relabel scope X.env).names.lookup y = some v → (y, NameKind.free) ∈ scope.names := by
        intro v hv e
        have m := lookup_mem e
        obtain ⟨⟨n, k⟩, hn, hz⟩ := List.mem_map.mp m
        dsimp only at hz
        split at hz
        · rename_i hc
          injection hz with h1 _
          subst h1
          have hk : k = .free := by
            simp only [Bool.and_eq_true] at hc
            simpa using hc.1.1
          rw [← hk]; exact hn
        · injection hz with h1 h2
          subst h1; subst h2
          rcases hv with rfl | rfl
          · exact absurd rfl (ncell _ hn)
          · exact hn
      rcases h with h | h
      · exact gen _ (.inl rfl) h
      · exact gen _ (.inr rfl) h
    obtain ⟨c, hc⟩ := clOf_has (env := X.env) (acc := []) hm
    exact lookup_some hc
  cap := fun k j y h => by
    obtain ⟨h1, h2⟩ := hcap k j y h
    exact ⟨h1, hfree _ (lookup_mem h2) rfl, lookup_relabel_free h2⟩
theorem blk_cx {CX : CXT} {P : Program} {w : World} {K : PySem.W.Frag} {mg : Str → Option Value} {base : Heap} {N : List Str} {qual : Str} {sc : Scope} {f : Addr} {cd : Value} {A : Around} {outer : List Env} {s : Shared} {H : Hp} {E : XK} {scope : Scope} {ts : List Str} {cap : Cap}
    (hfree : ∀ y ∈ scope.names, y.2 = .free → sc.names.lookup y.1 = some .cell) (nofree : ∀ y ∈ sc.names, y.2 ≠ .free) (ncell : ∀ y ∈ scope.names, y.2 ≠ .cell) (kind : scope.kind = .function) (names : ∀ y ∈ scope.names, y.2 = .local → scope.names.lookup y.1 = some .local)
    (hcap : ∀ p ∈ cap, N[p.1]? = some p.2 ∧ scope.names.lookup p.2 = some .free) :
    Blk (cxOf CX P w K mg base N qual sc f cd A outer s H E).nox scope ts cap (clOf (envOfC qual sc s.heap.objs.size f cd) scope.names []) :=
  Blk.caps (X := (cxOf CX P w K mg base N qual sc f cd A outer s H E).nox) (fun y h => by
    rcases h with h | h
    · exact cell_has (sc := sc) h
    · exact absurd rfl (nofree _ (lookup_mem (l := sc.names) h))) (fun y hy hk => .inl (hfree y hy hk)) ncell kind names
    (fun k j y h => hcap (j, y) (List.mem_of_getElem? h))
noncomputable def Sq (K : PySem.W.Frag) (H : Hp) (p : Addr) (xs : List V) : Prop := SqL K H p xs ∨ SqT K H p xs
inductive rIx2P (K : PySem.W.Frag) (x : V) (y : V) (H : Hp) (Q : VK) : Prop
  | mk (p : _) (xs : _) (i : _) (v : _) (h_0 : x = .ref p) (h_1 : y = .int i) (h_2 : Sq K H p xs) (h_3 : atI xs i = some v) (h_4 : Q v H)
noncomputable def rIx2 (K : PySem.W.Frag) : R2 := fun x y H Q => rIx2P K x y H Q
theorem ix_two {X : Cx} : IxR X (rIx2 X.K) := by
  intro value slice pins s σ H x y v u Q I rx ry h hs
  obtain ⟨p, xs, i, z, e1, e2, hq, he, q⟩ := h
  rcases hq with hq | hq
  · exact ix_list value slice pins s σ H x y v u Q I rx ry ⟨p, xs, i, z, e1, e2, hq, he, q⟩ hs
  · exact ix_tup value slice pins s σ H x y v u Q I rx ry ⟨p, xs, i, z, e1, e2, hq, he, q⟩ hs
end L2

namespace Cw
inductive Kd where
  | own | send | take
  deriving DecidableEq
structure Ev where
  k : Kd
  l : Int
  v : Int
  deriving DecidableEq
noncomputable abbrev Rows := List (List Ev)
noncomputable def at? (rs : Rows) (h p : Nat) : Option Ev := (rs[h]?).bind (·[p]?)
theorem at_row {rs : Rows} {h p : Nat} {r : List Ev} (e : rs[h]? = some r) : at? rs h p = r[p]? := by unfold at?; rw [e]; rfl
theorem at_some {rs : Rows} {h p : Nat} {e : Ev} (q : at? rs h p = some e) : ∃ r, rs[h]? = some r ∧ r[p]? = some e := by
  unfold at? at q
  cases z : rs[h]? with
  | none => rw [z] at q; cases q
  | some r => rw [z] at q; exact ⟨r, rfl, q⟩
noncomputable def Uniq (k : Kd) (rs : Rows) : Prop := ∀ (h p h' p' : Nat) (e e' : Ev), at? rs h p = some e → at? rs h' p' = some e' → e.k = k → e'.k = k → e.l = e'.l → h = h' ∧ p = p'
structure Ord (rs : Rows) (rk : Nat → Nat → Nat) : Prop where
  row : ∀ (h p : Nat) (e : Ev), at? rs h (p + 1) = some e → rk h p < rk h (p + 1)
  sent : ∀ (h p : Nat) (e : Ev), at? rs h p = some e → e.k = .take → ∃ (h' p' : Nat) (e' : Ev), at? rs h' p' = some e' ∧ e'.k = .send ∧ e'.l = e.l ∧ rk h' p' < rk h p
structure Bnd (rs : Rows) : Prop where
  lo : 1 ≤ rs.length
  hi : rs.length ≤ 4
  len : ∀ (h : Nat) (r : List Ev), rs[h]? = some r → r.length ≤ 6
  lets : ∀ (h p : Nat) (e : Ev), at? rs h p = some e → 0 ≤ e.l ∧ e.l ≤ 99
  vals : ∀ (h p : Nat) (e : Ev), at? rs h p = some e → -1000000000 ≤ e.v ∧ e.v ≤ 1000000000
  own0 : ∀ (h p : Nat) (e : Ev), at? rs h p = some e → e.k = .own → e.l = 0
structure Val (rs : Rows) : Prop where
  bnd : Bnd rs
  us : Uniq .send rs
  ut : Uniq .take rs
  ord : ∃ rk, Ord rs rk


end Cw

namespace Cw
noncomputable def placesRow (k : Kd) (h : Nat) : Nat → List Ev → List (Int × Nat × Nat)
  | _, [] => []
  | p, e :: r => (if e.k = k then [(e.l, h, p)] else []) ++ placesRow k h (p + 1) r
noncomputable def placesFrom (k : Kd) : Nat → Rows → List (Int × Nat × Nat)
  | _, [] => []
  | h, r :: rs => placesRow k h 0 r ++ placesFrom k (h + 1) rs
noncomputable def places (k : Kd) (rs : Rows) : List (Int × Nat × Nat) := placesFrom k 0 rs
theorem placesRow_snoc (k : Kd) (h : Nat) (e : Ev) : ∀ (p : Nat) (r : List Ev), placesRow k h p (r ++ [e]) = placesRow k h p r ++ (if e.k = k then [(e.l, h, p + r.length)] else [])
  | p, [] => by simp [placesRow]
  | p, a :: r => by
    rw [List.cons_append, placesRow, placesRow_snoc k h e (p + 1) r, placesRow, List.append_assoc, List.length_cons]
    have : p + 1 + r.length = p + (r.length + 1) := by lia
    rw [this]
theorem placesFrom_snoc (k : Kd) (r : List Ev) : ∀ (h : Nat) (rs : Rows), placesFrom k h (rs ++ [r]) = placesFrom k h rs ++ placesRow k (h + rs.length) 0 r
  | h, [] => by simp [placesFrom]
  | h, a :: rs => by
    rw [List.cons_append, placesFrom, placesFrom_snoc k r (h + 1) rs, placesFrom, List.append_assoc, List.length_cons]
    have : h + 1 + rs.length = h + (rs.length + 1) := by lia
    rw [this]
theorem placesRow_append (k : Kd) (h : Nat) : ∀ (p : Nat) (r q : List Ev), placesRow k h p (r ++ q) = placesRow k h p r ++ placesRow k h (p + r.length) q
  | p, [], q => by simp [placesRow]
  | p, a :: r, q => by
    rw [List.cons_append, placesRow, placesRow_append k h (p + 1) r q, placesRow, List.append_assoc, List.length_cons]
    have : p + 1 + r.length = p + (r.length + 1) := by lia
    rw [this]
theorem placesFrom_append (k : Kd) : ∀ (h : Nat) (rs qs : Rows), placesFrom k h (rs ++ qs) = placesFrom k h rs ++ placesFrom k (h + rs.length) qs
  | h, [], qs => by simp [placesFrom]
  | h, a :: rs, qs => by
    rw [List.cons_append, placesFrom, placesFrom_append k (h + 1) rs qs, placesFrom, List.append_assoc, List.length_cons]
    have : h + 1 + rs.length = h + (rs.length + 1) := by lia
    rw [this]
theorem mem_placesRow {k : Kd} {h : Nat} {x : Int × Nat × Nat} : ∀ {p : Nat} {r : List Ev}, x ∈ placesRow k h p r ↔ ∃ (j : Nat) (e : Ev), r[j]? = some e ∧ e.k = k ∧ x = (e.l, h, p + j)
  | p, [] => by simp [placesRow]
  | p, a :: r => by
    rw [placesRow, List.mem_append, mem_placesRow (p := p + 1) (r := r)]
    constructor
    · rintro (q | ⟨j, e, he, hk, hx⟩)
      · split at q
        · rename_i hk
          exact ⟨0, a, rfl, hk, by simpa using q⟩
        · cases q
      · exact ⟨j + 1, e, he, hk, by rw [hx]; congr 2; lia⟩
    · rintro ⟨j, e, he, hk, hx⟩
      cases j with
      | zero =>
        have : a = e := Option.some.inj he
        subst this
        left
        rw [if_pos hk, hx]
        simp
      | succ j => exact .inr ⟨j, e, he, hk, by rw [hx]; congr 2; lia⟩
theorem mem_placesFrom {k : Kd} {x : Int × Nat × Nat} : ∀ {n : Nat} {rs : Rows}, x ∈ placesFrom k n rs ↔ ∃ (i j : Nat) (e : Ev), at? rs i j = some e ∧ e.k = k ∧ x = (e.l, n + i, j)
  | n, [] => by simp [placesFrom, at?]
  | n, r :: rs => by
    rw [placesFrom, List.mem_append, mem_placesRow, mem_placesFrom (n := n + 1) (rs := rs)]
    constructor
    · rintro (⟨j, e, he, hk, hx⟩ | ⟨i, j, e, he, hk, hx⟩)
      · exact ⟨0, j, e, by rw [at_row (r := r) rfl]; exact he, hk, by rw [hx]; simp⟩
      · exact ⟨i + 1, j, e, he, hk, by rw [hx]; congr 2; lia⟩
    · rintro ⟨i, j, e, he, hk, hx⟩
      cases i with
      | zero =>
        rw [at_row (r := r) rfl] at he
        exact .inl ⟨j, e, he, hk, by rw [hx]; simp⟩
      | succ i => exact .inr ⟨i, j, e, he, hk, by rw [hx]; congr 2; lia⟩
theorem mem_places {k : Kd} {rs : Rows} {l : Int} {h p : Nat} : (l, h, p) ∈ places k rs ↔ ∃ e, at? rs h p = some e ∧ e.k = k ∧ e.l = l := by
  unfold places
  rw [mem_placesFrom]
  constructor
  · rintro ⟨i, j, e, he, hk, hx⟩
    injection hx with h1 h2
    injection h2 with h2 h3
    have : h = i := by lia
    subst this
    subst h3
    exact ⟨e, he, hk, h1.symm⟩
  · rintro ⟨e, he, hk, hl⟩
    exact ⟨h, p, e, he, hk, by rw [hl]; simp⟩
theorem placesRow_pw (k : Kd) (h : Nat) : ∀ (p : Nat) (r : List Ev), (placesRow k h p r).Pairwise fun a b => a.2 ≠ b.2
  | p, [] => by simp [placesRow]
  | p, a :: r => by
    rw [placesRow]
    refine List.pairwise_append.mpr ⟨?_, placesRow_pw k h (p + 1) r, fun x hx y hy => ?_⟩
    · split <;> simp
    · obtain ⟨j, e, _, _, rfl⟩ := mem_placesRow.mp hy
      split at hx
      · have : x = (a.l, h, p) := by simpa using hx
        subst this
        intro z
        injection z with z1 z2
        lia
      · cases hx
theorem placesFrom_pw (k : Kd) : ∀ (n : Nat) (rs : Rows), (placesFrom k n rs).Pairwise fun a b => a.2 ≠ b.2
  | n, [] => by simp [placesFrom]
  | n, r :: rs => by
    rw [placesFrom]
    refine List.pairwise_append.mpr ⟨placesRow_pw k n 0 r, placesFrom_pw k (n + 1) rs, fun x hx y hy => ?_⟩
    obtain ⟨j, e, _, _, rfl⟩ := mem_placesRow.mp hx
    obtain ⟨i, j', e', _, _, rfl⟩ := mem_placesFrom.mp hy
    intro z
    injection z with z1 z2
    lia
theorem places_nodup {k : Kd} {rs : Rows} (u : Uniq k rs) : ((places k rs).map (·.1)).Nodup := by
  unfold List.Nodup
  rw [List.pairwise_map]
  refine List.Pairwise.imp_of_mem ?_ (placesFrom_pw k 0 rs)
  rintro ⟨l, h, p⟩ ⟨l', h', p'⟩ ha hb hne hl
  obtain ⟨e, he, hk, hel⟩ := mem_places.mp ha
  obtain ⟨e', he', hk', hel'⟩ := mem_places.mp hb
  obtain ⟨z1, z2⟩ := u h p h' p' e e' he he' hk hk' (by rw [hel, hel']; exact hl)
  exact hne (by simp [z1, z2])
noncomputable def soFar (k : Kd) (rs : Rows) (i j : Nat) : List (Int × Nat × Nat) := placesFrom k 0 (rs.take i) ++ placesRow k i 0 (((rs[i]?).getD []).take j)
theorem soFar_zero (k : Kd) (rs : Rows) : soFar k rs 0 0 = [] := by simp [soFar, placesFrom, placesRow]
theorem soFar_row {k : Kd} {rs : Rows} {i : Nat} {r : List Ev} (hr : rs[i]? = some r) : soFar k rs i r.length = soFar k rs (i + 1) 0 := by
  have hl : i < rs.length := (List.getElem?_eq_some_iff.mp hr).1
  unfold soFar
  rw [hr, Option.getD_some, List.take_length, List.take_add_one, hr]
  show _ = placesFrom k 0 (rs.take i ++ [r]) ++ placesRow k (i + 1) 0 (List.take 0 _)
  rw [placesFrom_snoc, List.take_zero, placesRow, List.append_nil, List.length_take]
  have : 0 + min i rs.length = i := by lia
  rw [this]
theorem soFar_ev {k : Kd} {rs : Rows} {i j : Nat} {r : List Ev} {e : Ev} (hr : rs[i]? = some r) (he : r[j]? = some e) : soFar k rs i (j + 1) = soFar k rs i j ++ (if e.k = k then [(e.l, i, j)] else []) := by
  have hl : j < r.length := (List.getElem?_eq_some_iff.mp he).1
  unfold soFar
  rw [hr, Option.getD_some, List.take_add_one, he]
  show _ ++ placesRow k i 0 (r.take j ++ [e]) = _
  rw [placesRow_snoc, List.length_take, List.append_assoc]
  have : 0 + min j r.length = j := by lia
  rw [this]
theorem soFar_all (k : Kd) (rs : Rows) : soFar k rs rs.length 0 = places k rs := by
  unfold soFar places
  rw [List.take_length, List.take_zero, placesRow, List.append_nil]
theorem soFar_pre {k : Kd} {rs : Rows} {i j : Nat} : soFar k rs i j <+: places k rs := by
  unfold soFar places
  by_cases hi : i < rs.length
  · have e : rs = rs.take i ++ (rs[i] :: rs.drop (i + 1)) := by
      rw [← List.drop_eq_getElem_cons hi, List.take_append_drop]
    have g : (rs[i]?).getD [] = rs[i] := by rw [List.getElem?_eq_getElem hi]; rfl
    have e2 : placesFrom k 0 rs = placesFrom k 0 (rs.take i) ++ (placesRow k i 0 rs[i] ++ placesFrom k (i + 1) (rs.drop (i + 1))) := by
      conv => lhs; rw [e]
      rw [placesFrom_append, List.length_take]
      have : 0 + min i rs.length = i := by lia
      rw [this]
      rfl
    rw [g, e2, List.prefix_append_right_inj]
    refine List.IsPrefix.trans ?_ (List.prefix_append _ _)
    conv => rhs; rw [← List.take_append_drop j rs[i]]
    rw [placesRow_append]
    exact List.prefix_append _ _
  · have g : rs[i]? = none := List.getElem?_eq_none (by lia)
    rw [g, Option.getD_none, List.take_of_length_le (by lia), List.take_nil, placesRow, List.append_nil]
    exact List.prefix_refl _
theorem soFar_new {k : Kd} {rs : Rows} (u : Uniq k rs) {i j : Nat} {r : List Ev} {e : Ev} (hr : rs[i]? = some r) (he : r[j]? = some e) (hk : e.k = k) : e.l ∉ (soFar k rs i j).map (·.1) := by
  have p : soFar k rs i (j + 1) <+: places k rs := soFar_pre
  rw [soFar_ev hr he, if_pos hk] at p
  have n := (places_nodup u).sublist (p.sublist.map (·.1))
  rw [List.map_append] at n
  intro hm
  exact (List.nodup_append.mp n).2.2 _ hm _ (by simp) rfl

noncomputable def Free (rs : Rows) (cs : List Nat) (e : Ev) : Prop := e.k = .take → ∃ (h p c : Nat) (e' : Ev), at? rs h p = some e' ∧ e'.k = .send ∧ e'.l = e.l ∧ cs[h]? = some c ∧ p < c
inductive Reach (rs : Rows) : List Nat → Prop where
  | zero : Reach rs (rs.map fun _ => 0)
  | step {cs : List Nat} {h c : Nat} {e : Ev} : Reach rs cs → cs[h]? = some c → at? rs h c = some e → Free rs cs e → Reach rs (cs.set h (c + 1))
noncomputable def Stuck (rs : Rows) (cs : List Nat) : Prop := ∀ (h c : Nat) (e : Ev), cs[h]? = some c → at? rs h c = some e → ¬ Free rs cs e
theorem Reach.len {rs : Rows} {cs : List Nat} (r : Reach rs cs) : cs.length = rs.length := by
  induction r with
  | zero => simp
  | step _ _ _ _ ih => rw [List.length_set]; exact ih
theorem Reach.le {rs : Rows} {cs : List Nat} (q : Reach rs cs) : ∀ (h c : Nat) (r : List Ev), cs[h]? = some c → rs[h]? = some r → c ≤ r.length := by
  induction q with
  | zero =>
    intro h c r hc hr
    rw [List.getElem?_map, hr] at hc
    cases hc
    exact Nat.zero_le _
  | @step cs h c e _ hc he _ ih =>
    intro j c' r hc' hr
    by_cases z : h = j
    · subst z
      have hl : h < cs.length := (List.getElem?_eq_some_iff.mp hc).1
      rw [List.getElem?_set_self hl] at hc'
      cases hc'
      rw [at_row hr] at he
      have := (List.getElem?_eq_some_iff.mp he).1
      lia
    · rw [List.getElem?_set_ne z] at hc'
      exact ih j c' r hc' hr
end Cw

namespace Cw
noncomputable def evsRow (h : Nat) (n : Nat) : List (Nat × Nat) := (List.range n).map fun p => (h, p)
noncomputable def evsFrom : Nat → Rows → List (Nat × Nat)
  | _, [] => []
  | h, r :: rs => evsRow h r.length ++ evsFrom (h + 1) rs
noncomputable def evs (rs : Rows) : List (Nat × Nat) := evsFrom 0 rs
theorem evsFrom_snoc (r : List Ev) : ∀ (h : Nat) (rs : Rows), evsFrom h (rs ++ [r]) = evsFrom h rs ++ evsRow (h + rs.length) r.length
  | h, [] => by simp [evsFrom]
  | h, a :: rs => by
    rw [List.cons_append, evsFrom, evsFrom_snoc r (h + 1) rs, evsFrom, List.append_assoc, List.length_cons]
    have : h + 1 + rs.length = h + (rs.length + 1) := by lia
    rw [this]
theorem mem_evsFrom {x : Nat × Nat} : ∀ {n : Nat} {rs : Rows}, x ∈ evsFrom n rs ↔ ∃ (i j : Nat) (e : Ev), at? rs i j = some e ∧ x = (n + i, j)
  | n, [] => by simp [evsFrom, at?]
  | n, r :: rs => by
    rw [evsFrom, List.mem_append, mem_evsFrom (n := n + 1) (rs := rs)]
    constructor
    · rintro (q | ⟨i, j, e, he, hx⟩)
      · obtain ⟨j, hj, rfl⟩ := List.mem_map.mp q
        have hj := List.mem_range.mp hj
        exact ⟨0, j, r[j], by rw [at_row (r := r) rfl]; exact List.getElem?_eq_getElem hj, rfl⟩
      · exact ⟨i + 1, j, e, he, by rw [hx]; congr 1; lia⟩
    · rintro ⟨i, j, e, he, hx⟩
      cases i with
      | zero =>
        rw [at_row (r := r) rfl] at he
        exact .inl (List.mem_map.mpr ⟨j, List.mem_range.mpr (List.getElem?_eq_some_iff.mp he).1, hx.symm⟩)
      | succ i => exact .inr ⟨i, j, e, he, by rw [hx]; congr 1; lia⟩
theorem mem_evs {rs : Rows} {h p : Nat} : (h, p) ∈ evs rs ↔ ∃ e, at? rs h p = some e := by
  unfold evs
  rw [mem_evsFrom]
  constructor
  · rintro ⟨i, j, e, he, hx⟩
    injection hx with h1 h2
    have : h = i := by lia
    subst this; subst h2
    exact ⟨e, he⟩
  · rintro ⟨e, he⟩
    exact ⟨h, p, e, he, by rw [Nat.zero_add]⟩
theorem evsRow_pw (h n : Nat) : (evsRow h n).Nodup := by
  unfold evsRow List.Nodup
  rw [List.pairwise_map]
  refine List.Pairwise.imp ?_ (List.nodup_range (n := n))
  intro a b hne z
  injection z with _ z
  exact hne z
theorem evsFrom_nodup : ∀ (n : Nat) (rs : Rows), (evsFrom n rs).Nodup
  | n, [] => List.nodup_nil
  | n, r :: rs => by
    rw [evsFrom]
    refine List.nodup_append.mpr ⟨evsRow_pw n r.length, evsFrom_nodup (n + 1) rs, fun x hx y hy => ?_⟩
    obtain ⟨j, _, rfl⟩ := List.mem_map.mp hx
    obtain ⟨i, j', e', _, rfl⟩ := mem_evsFrom.mp hy
    intro z
    injection z with z1 z2
    lia
theorem evsFrom_len : ∀ (n : Nat) (rs : Rows), (∀ r ∈ rs, r.length ≤ 6) → (evsFrom n rs).length ≤ 6 * rs.length
  | _, [], _ => Nat.le_refl _
  | n, r :: rs, h => by
    have h1 := evsFrom_len (n + 1) rs fun x hx => h x (List.mem_cons_of_mem _ hx)
    have h3 := h r List.mem_cons_self
    rw [evsFrom, List.length_append, List.length_cons]
    unfold evsRow
    rw [List.length_map, List.length_range]
    lia
theorem evs_len {rs : Rows} (b : Bnd rs) : (evs rs).length ≤ 24 := by
  have h2 := evsFrom_len 0 rs fun r hr => by
    obtain ⟨i, hi⟩ := List.getElem?_of_mem hr
    exact b.len i r hi
  have h3 := b.hi
  unfold evs
  lia
noncomputable def evsFar (rs : Rows) (i j : Nat) : List (Nat × Nat) := evsFrom 0 (rs.take i) ++ evsRow i j
theorem evsFar_row {rs : Rows} {i : Nat} {r : List Ev} (hr : rs[i]? = some r) : evsFar rs i r.length = evsFar rs (i + 1) 0 := by
  have hl : i < rs.length := (List.getElem?_eq_some_iff.mp hr).1
  unfold evsFar
  rw [List.take_add_one, hr]
  show _ = evsFrom 0 (rs.take i ++ [r]) ++ []
  rw [evsFrom_snoc, List.length_take, List.append_nil]
  have : 0 + min i rs.length = i := by lia
  rw [this]
theorem evsFar_ev (rs : Rows) (i j : Nat) : evsFar rs i (j + 1) = evsFar rs i j ++ [(i, j)] := by
  unfold evsFar evsRow
  rw [List.range_succ, List.map_append, List.append_assoc]
  rfl
theorem evsFar_all (rs : Rows) : evsFar rs rs.length 0 = evs rs := by
  unfold evsFar evs
  rw [List.take_length]
  show _ ++ [] = _
  rw [List.append_nil]
theorem evsFar_len {rs : Rows} (b : Bnd rs) (i j : Nat) (hj : j ≤ 6) (hi : i ≤ 4) : (evsFar rs i j).length ≤ 30 := by
  have h2 := evsFrom_len 0 (rs.take i) fun r hr => by
    obtain ⟨i, hi⟩ := List.getElem?_of_mem (List.mem_of_mem_take hr)
    exact b.len i r hi
  unfold evsFar evsRow
  rw [List.length_append, List.length_map, List.length_range]
  rw [List.length_take] at h2
  lia
noncomputable abbrev Pl := Nat × Nat
noncomputable def Has (rs : Rows) (o : Pl) : Prop := ∃ e, at? rs o.1 o.2 = some e
theorem mem_evs' {rs : Rows} {o : Pl} : o ∈ evs rs ↔ Has rs o := mem_evs (h := o.1) (p := o.2)
noncomputable def Step (rs : Rows) (a b : Pl) : Prop := Has rs a ∧ Has rs b ∧ ((a.1 = b.1 ∧ a.2 + 1 = b.2) ∨ ∃ e f, at? rs a.1 a.2 = some e ∧ at? rs b.1 b.2 = some f ∧ e.k = .send ∧ f.k = .take ∧ f.l = e.l)
end Cw

namespace Cw
end Cw

set_option Elab.async false
set_option linter.all false
set_option maxRecDepth 100000
set_option maxHeartbeats 4000000
namespace L2
open PySem PySem.Spec PyProof.Rows
theorem un_of {A : Around} {k d : Nat} (hr : Room k A) (h : d ≤ 200 := by decide) : A.units + d < cLine := by have := hr.un; lia
inductive rLenSP (K : PySem.W.Frag) (xs : List V) (H : Hp) (Q : VK) : Prop
  | mk (p : _) (ys : _) (h_0 : xs = [.ref p]) (h_1 : (SqL K H p ys ∨ SqT K H p ys)) (h_2 : Q (.int ys.length) H)
noncomputable def rLenS (K : PySem.W.Frag) : List V → Hp → VK → Prop := fun xs H Q => rLenSP K xs H Q
inductive rListOfP (K : PySem.W.Frag) (xs : List V) (H : Hp) (Q : VK) : Prop
  | mk (p : _) (ys : _) (h_0 : xs = [.ref p]) (h_1 : (SqL K H p ys ∨ SqT K H p ys)) (h_2 : ∀ l, H l = none → Q (.ref l) (upd H l (.lst ys)))
noncomputable def rListOf (K : PySem.W.Frag) : List V → Hp → VK → Prop := fun xs H Q => rListOfP K xs H Q
theorem bt_len : bootBuiltins "len" = some (.builtin "len") := by decide +kernel
theorem bt_isinstance : bootBuiltins "isinstance" = some (.builtin "isinstance") := by decide +kernel
theorem bt_list : bootBuiltins "list" = some (.type "list") := by decide +kernel
theorem bt_int : bootBuiltins "int" = some (.type "int") := by decide +kernel
theorem bt_str : bootBuiltins "str" = some (.type "str") := by decide +kernel
theorem get_list {X : Cx} : PGet X (fun o i H Q => ∃ p xs k v, o = .ref p ∧ i = .int k ∧ SqL X.K H p xs ∧ 0 ≤ k ∧ atI xs k = some v ∧ Q v H) := by
  intro pins s σ H o i ov iv Q I ro ri h
  obtain ⟨p, xs, k, v, e1, e2, hq, hk, hx, q⟩ := h
  subst e1; subst e2
  cases ro
  obtain ⟨t, rfl⟩ := ri
  obtain ⟨its, rv, pl, hz⟩ := I.list hq
  obtain ⟨j, hs, hj, hjl, h1, h2⟩ := atI_get hx
  obtain ⟨u, hu, ru⟩ := rv.get hj
  have ej : j = k.toNat := by
    have e := hs
    unfold seqIndex? at e
    simp only [hk, if_true] at e
    split at e <;> first | (cases e; rfl) | (simp at e; lia) | cases e
  exact wpAny_getItem_list pl.isList hk (by have := line63; have : (xs.length : Int) ≤ (sizeLine : Int) := by exact_mod_cast hz
                                            lia) (by rw [← ej]; simpa using hu) ⟨v, H, I, ru, q⟩
end L2
namespace Cw
open PySem L2
noncomputable def Kd.str : Kd → Str
  | .own => "own"
  | .send => "send"
  | .take => "take"
theorem Kd.str_inj : ∀ {a b : Kd}, a.str = b.str → a = b := by
  intro a b h
  cases a <;> cases b <;> first | rfl | exact absurd h (by decide +kernel)
noncomputable def Ev.vs (e : Ev) : List V := [.str e.k.str, .int e.l, .int e.v]
noncomputable def Kept (S : Addr → Prop) (H H' : Hp) : Prop := ∀ b o, H b = some o → ¬ S b → H' b = some o
theorem Same.kept {S : Addr → Prop} {H H' : Hp} (h : Same H H') : Kept S H H' := fun b o e _ => h b o e
theorem Kept.trans {S : Addr → Prop} {H H1 H2 : Hp} (a : Kept S H H1) (b : Kept S H1 H2) : Kept S H H2 := fun c o e n => b c o (a c o e n) n
theorem Kept.upd {S : Addr → Prop} {H : Hp} {a : Addr} {o : HO} (h : S a) : Kept S H (L2.upd H a o) := fun b u e n => by
  rw [upd_ne (by rintro rfl; exact n h)]; exact e
theorem Kept.new {S : Addr → Prop} {H : Hp} {a : Addr} {o : HO} (h : H a = none) : Kept S H (L2.upd H a o) := fun b u e n => by
  rw [upd_ne (ne_of_none e h)]; exact e
theorem Same.new {H : Hp} {a : Addr} {o : HO} (h : H a = none) : Same H (L2.upd H a o) := fun b u e => by
  rw [upd_ne (ne_of_none e h)]; exact e
noncomputable def NoTup (S : Addr → Prop) (H : Hp) : Prop := ∀ b xs, S b → H b ≠ some (.tup xs)
noncomputable def EvAt (H : Hp) (x : V) (e : Ev) : Prop := ∃ p, x = .ref p ∧ H p = some (.tup e.vs)
theorem EvAt.keep {S : Addr → Prop} {H H' : Hp} {x : V} {e : Ev} (k : Kept S H H') (n : NoTup S H) (h : EvAt H x e) : EvAt H' x e := by
  obtain ⟨p, rfl, q⟩ := h
  exact ⟨p, rfl, k p _ q fun z => n p _ z q⟩
noncomputable def RowA (H : Hp) (p : Addr) (r : List Ev) : Prop := ∃ xs, H p = some (.lst xs) ∧ Paired (EvAt H) xs r
theorem RowA.keep {S : Addr → Prop} {H H' : Hp} {p : Addr} {r : List Ev} (k : Kept S H H') (n : NoTup S H) (np : ¬ S p) (h : RowA H p r) : RowA H' p r := by
  obtain ⟨xs, q, m⟩ := h
  exact ⟨xs, k p _ q np, Paired.mapP m fun x e z => z.keep k n⟩
structure RowsA (H : Hp) (a : Addr) (ps : List Addr) (rs : Rows) : Prop where
  top : H a = some (.lst (ps.map V.ref))
  rows : Paired (RowA H) ps rs
theorem RowsA.keep {S : Addr → Prop} {H H' : Hp} {a : Addr} {ps : List Addr} {rs : Rows} (k : Kept S H H') (n : NoTup S H) (na : ¬ S a) (np : ∀ p ∈ ps, ¬ S p) (h : RowsA H a ps rs) : RowsA H' a ps rs := by
  refine ⟨k a _ h.top na, ?_⟩
  have := h.rows
  clear h
  induction this with
  | nil => exact .nil
  | @cons p r ps rs q t ih => exact .cons (q.keep k n (np p List.mem_cons_self)) (ih fun b hb => np b (List.mem_cons_of_mem _ hb))
theorem RowsA.same {H H' : Hp} {a : Addr} {ps : List Addr} {rs : Rows} (k : Same H H') (h : RowsA H a ps rs) : RowsA H' a ps rs :=
  h.keep (S := fun _ => False) (fun b o e _ => k b o e) (fun _ _ z => z.elim) (fun z => z) (fun _ _ z => z)
theorem RowsA.len {H : Hp} {a : Addr} {ps : List Addr} {rs : Rows} (h : RowsA H a ps rs) : ps.length = rs.length := Paired.length h.rows
theorem RowsA.row {H : Hp} {a : Addr} {ps : List Addr} {rs : Rows} (h : RowsA H a ps rs) {i : Nat} {r : List Ev} (e : rs[i]? = some r) : ∃ p, ps[i]? = some p ∧ RowA H p r := Paired.getR h.rows e
theorem RowsA.mean {H : Hp} {K : PySem.W.Frag} {a : Addr} {ps : List Addr} {rs : Rows} (h : RowsA H a ps rs) : MLst K (MLst K (MTup K MFl)) H (.ref a) (rs.map fun r => r.map Ev.vs) := by
  refine ⟨a, _, rfl, SqL.of h.top, ?_⟩
  have := h.rows
  clear h
  induction this with
  | nil => exact .nil
  | @cons p r ps rs q t ih =>
    refine .cons ?_ ih
    obtain ⟨xs, q1, m⟩ := q
    refine ⟨p, xs, rfl, SqL.of q1, ?_⟩
    clear q1
    induction m with
    | nil => exact .nil
    | @cons x e xs r z t ih2 =>
      obtain ⟨p', rfl, hp'⟩ := z
      exact .cons ⟨p', _, rfl, SqT.of hp', .cons ⟨rfl, rfl⟩ (.cons ⟨rfl, rfl⟩ (.cons ⟨rfl, rfl⟩ .nil))⟩ ih2
noncomputable def PlA (H : Hp) (kv : Key × V) (x : Int × Nat × Nat) : Prop := kv.1 = .inl x.1 ∧ ∃ t, kv.2 = .ref t ∧ H t = some (.tup [.int (x.2.1 : Nat), .int (x.2.2 : Nat)])
theorem PlA.keep {S : Addr → Prop} {H H' : Hp} {kv : Key × V} {x : Int × Nat × Nat} (k : Kept S H H') (n : NoTup S H) (h : PlA H kv x) : PlA H' kv x := by
  obtain ⟨h1, t, h2, h3⟩ := h
  exact ⟨h1, t, h2, k t _ h3 fun z => n t _ z h3⟩
theorem pl_none {H : Hp} {l : Int} {kvs : List (Key × V)} {xs : List (Int × Nat × Nat)} (m : Paired (PlA H) kvs xs) (hn : l ∉ xs.map (·.1)) : valV kvs (Sum.inl l : Key) = none := by
  induction m with
  | nil => rfl
  | @cons kv x _ _ h t ih =>
    have e : ¬ kv.1 = (Sum.inl l : Key) := fun z => by
      rw [h.1] at z
      exact hn (by rw [List.map_cons, Sum.inl.inj z]; exact List.mem_cons_self)
    rw [valV_neg e]
    exact ih fun z => hn (by rw [List.map_cons]; exact List.mem_cons_of_mem _ z)
theorem pl_some {H : Hp} {l : Int} {h p : Nat} {kvs : List (Key × V)} {xs : List (Int × Nat × Nat)} (m : Paired (PlA H) kvs xs) (nd : (xs.map (·.1)).Nodup) (hm : (l, h, p) ∈ xs) : ∃ t, valV kvs (Sum.inl l : Key) = some (.ref t) ∧ H t = some (.tup [.int (h : Nat), .int (p : Nat)]) := by
  induction m with
  | nil => cases hm
  | @cons kv x _ _ q t ih =>
    rw [List.map_cons] at nd
    obtain ⟨n1, n2⟩ := List.nodup_cons.mp nd
    rcases List.mem_cons.mp hm with e | hm
    · subst e
      obtain ⟨q1, t', q2, q3⟩ := q
      exact ⟨t', by rw [valV_pos q1, q2], q3⟩
    · have e : ¬ kv.1 = (Sum.inl l : Key) := fun z => by
        rw [q.1] at z
        have : x.1 = l := Sum.inl.inj z
        exact n1 (by rw [this]; exact List.mem_map.mpr ⟨_, hm, rfl⟩)
      rw [valV_neg e]
      exact ih n2 hm
end Cw

set_option Elab.async false
set_option linter.all false
set_option maxRecDepth 100000
set_option maxHeartbeats 4000000
namespace Cw
open PySem L2
noncomputable def cell (ns : List Int) (k : Int) : Int := (ns[k.toNat]?).getD 0
noncomputable def draw (ns : List Int) (k : Int) : Int := (cell ns (k % 61) + 7919 * k) * 48271 % 2147483647
theorem draw_nn (ns : List Int) (k : Int) : 0 ≤ draw ns k := Int.emod_nonneg _ (by decide)
theorem draw_lt (ns : List Int) (k : Int) : draw ns k < 2147483647 := Int.emod_lt_of_pos _ (by decide)
inductive sp_cellP (K : PySem.W.Frag) (vs : List V) (H : Hp) (Q : VK) (x_3 : XK) : Prop
  | mk (a : Addr) (ns : List Int) (k : Int) (h_0 : vs = [.ref a, .int k]) (h_1 : SqL K H a (ns.map V.int)) (h_2 : 0 ≤ k) (h_3 : Q (.int (cell ns k)) H)
noncomputable def sp_cell (K : PySem.W.Frag) : Sp := fun vs H Q x_3 => sp_cellP K vs H Q x_3
inductive sp_drawP (K : PySem.W.Frag) (vs : List V) (H : Hp) (Q : VK) (x_3 : XK) : Prop
  | mk (a : Addr) (ns : List Int) (k : Int) (h_0 : vs = [.ref a, .int k]) (h_1 : SqL K H a (ns.map V.int)) (h_2 : 0 ≤ k) (h_3 : Q (.int (draw ns k)) H)
noncomputable def sp_draw (K : PySem.W.Frag) : Sp := fun vs H Q x_3 => sp_drawP K vs H Q x_3
noncomputable def SendsA (H : Hp) (d : Addr) (rs : Rows) : Prop := ∃ kvs, Rd H d (.dK kvs) ∧ Paired (PlA H) kvs (places .send rs)
noncomputable def TakesA (H : Hp) (d : Addr) (rs : Rows) : Prop := ∃ kvs, Rd H d (.dK kvs) ∧ Paired (PlA H) kvs (places .take rs)
noncomputable def Sent (rs : Rows) : Prop := ∀ (h p : Nat) (e : Ev), at? rs h p = some e → e.k = .take → ∃ (h' p' : Nat) (e' : Ev), at? rs h' p' = some e' ∧ e'.k = .send ∧ e'.l = e.l
theorem Val.sent {rs : Rows} (v : Val rs) : Sent rs := fun h p e q k => by
  obtain ⟨rk, o⟩ := v.ord
  obtain ⟨h', p', e', a, b, c, _⟩ := o.sent h p e q k
  exact ⟨h', p', e', a, b, c⟩
noncomputable def csV (cs : List Nat) : List V := cs.map fun n => V.int (n : Nat)
inductive sp_canP (vs : List V) (H : Hp) (Q : VK) (x_3 : XK) : Prop
  | mk (t : Addr) (sd : Addr) (c : Addr) (e : Ev) (cs : List Nat) (rs : Rows) (h_0 : vs = [.ref t, .ref sd, .ref c]) (h_1 : H t = some (.tup e.vs)) (h_2 : SendsA H sd rs) (h_3 : H c = some (.lst (csV cs))) (h_4 : cs.length = rs.length) (h_5 : Uniq .send rs) (h_6 : (e.k = .take → ∃ (h' p' : Nat) (e' : Ev), at? rs h' p' = some e' ∧ e'.k = .send ∧ e'.l = e.l)) (h_7 : ∀ b : Bool, (b = true ↔ Free rs cs e) → Q (.bl b) H)
noncomputable def sp_can : Sp := fun vs H Q x_3 => sp_canP vs H Q x_3
inductive sp_doneP (vs : List V) (H : Hp) (Q : VK) (x_3 : XK) : Prop
  | mk (a : Addr) (sd : Addr) (ps : List Addr) (rs : Rows) (h_0 : vs = [.ref a, .ref sd]) (h_1 : RowsA H a ps rs) (h_2 : SendsA H sd rs) (h_3 : Uniq .send rs) (h_4 : Sent rs) (h_5 : rs.length ≤ 1000) (h_6 : ∀ (c : Addr) (cs : List Nat) (H' : Hp), Same H H' → H c = none → H' c = some (.lst (csV cs)) → Reach rs cs → Stuck rs cs → Q (.ref c) H')
noncomputable def sp_done : Sp := fun vs H Q x_3 => sp_doneP vs H Q x_3
noncomputable def recF (a sd td : Addr) : List (Str × V) := [("rows", .ref a), ("sends", .ref sd), ("takes", .ref td)]
structure RecA (C : Addr) (H : Hp) (x : Addr) (rs : Rows) (a : Addr) (ps : List Addr) (sd td : Addr) : Prop where
  ob : ∃ dx, H x = some (.ins C dx (recF a sd td))
  rows : RowsA H a ps rs
  sends : SendsA H sd rs
  takes : TakesA H td rs
  val : Val rs
inductive sp_lawP (K : PySem.W.Frag) (vs : List V) (H : Hp) (Q : VK) (x_3 : XK) : Prop
  | mk (a : Addr) (ns : List Int) (h_0 : vs = [.ref a]) (h_1 : SqL K H a (ns.map V.int)) (h_2 : ns.length ≤ 63) (h_3 : ∀ H', Q (.bl true) H')
noncomputable def sp_law (K : PySem.W.Frag) : Sp := fun vs H Q x_3 => sp_lawP K vs H Q x_3
noncomputable def Bl (mg : Str → Option Value) : Prop := ∀ x ∈ (["len", "range", "enumerate", "list", "tuple", "isinstance", "int", "bool", "str", "min", "max", "sum", "sorted", "reversed", "zip", "any", "all"] : List Str), mg x = none
structure RecC (K : PySem.W.Frag) (C : Addr) : Prop where
  cl : Cls K C
  nR : NoAttr K C "rows"
  nS : NoAttr K C "sends"
  nT : NoAttr K C "takes"
end Cw

set_option Elab.async false
set_option linter.all false
set_option maxRecDepth 100000
set_option maxHeartbeats 4000000
namespace Cw
open PySem L2
section
variable {P : Program} {w : World} {K : PySem.W.Frag} {mg : Str → Option Value} {base : Heap}
theorem atI_int {ns : List Int} {k : Int} (h0 : 0 ≤ k) (h : k < ((ns.map V.int).length : Int)) : atI (ns.map V.int) k = some (.int (cell ns k)) := by
  have hl : k.toNat < ns.length := by rw [List.length_map] at h; lia
  have e : k = ((k.toNat : Nat) : Int) := by lia
  rw [e]
  refine atI_nat ?_
  rw [List.getElem?_map, List.getElem?_eq_getElem hl]
  unfold cell
  rw [Int.toNat_natCast, List.getElem?_eq_getElem hl]
  rfl
theorem cell_out {ns : List Int} {k : Int} (h : ¬ k < ((ns.map V.int).length : Int)) : cell ns k = 0 := by
  have hl : ns.length ≤ k.toNat := by rw [List.length_map] at h; lia
  unfold cell
  rw [List.getElem?_eq_none hl]
  rfl
theorem kd_dec (a b : Kd) : decide (V.str a.str = V.str b.str) = decide (a = b) := decide_eq_decide.mpr ⟨fun h => Kd.str_inj (by injection h), fun h => by rw [h]⟩
theorem map_ref {ps : List Addr} {i : Nat} {y : V} (h : (ps.map V.ref)[i]? = some y) : ∃ p, ps[i]? = some p ∧ y = .ref p := by
  rw [List.getElem?_map] at h
  cases e : ps[i]? with
  | none => rw [e] at h; cases h
  | some p => rw [e] at h; exact ⟨p, rfl, (Option.some.inj h).symm⟩
theorem RowsA.get {H : Hp} {a : Addr} {ps : List Addr} {rs : Rows} (h : RowsA H a ps rs) {i : Nat} {p : Addr} (e : ps[i]? = some p) : ∃ r, rs[i]? = some r ∧ RowA H p r := Paired.get h.rows e
theorem ev_get {H : Hp} {xs : List V} {r : List Ev} (m : Paired (EvAt H) xs r) {j : Nat} {z : V} (h : xs[j]? = some z) : ∃ t e, r[j]? = some e ∧ z = .ref t ∧ H t = some (.tup e.vs) := by
  obtain ⟨e, he, t, hz, ht⟩ := Paired.get m h
  exact ⟨t, e, he, hz, ht⟩
theorem copy_step {H0 H : Hp} {D l : Addr} {qs : List Addr} {rs : Rows} {i : Nat} {r : List Ev} {xs : List V} (hs : Same H0 H) (hD0 : H0 D = none) (hD : H D = some (.lst (qs.map V.ref))) (hq : Paired (RowA H) qs (rs.take i)) (hn : ∀ q ∈ qs, H0 q = none) (nd : qs.Nodup) (nD : D ∉ qs)
    (hr : rs[i]? = some r) (m : Paired (EvAt H0) xs r) (hl : H l = none) :
    let H' := L2.upd (L2.upd H l (.lst xs)) D (.lst ((qs ++ [l]).map V.ref))
    Same H0 H' ∧ H' D = some (.lst ((qs ++ [l]).map V.ref)) ∧ Paired (RowA H') (qs ++ [l]) (rs.take (i + 1)) ∧ (∀ q ∈ qs ++ [l], H0 q = none) ∧ (qs ++ [l]).Nodup ∧ D ∉ qs ++ [l] := by
  intro H'
  have lD : l ≠ D := by rintro rfl; rw [hl] at hD; cases hD
  have l0 : H0 l = none := hs.free hl
  have s1 : Same H0 H' := fun b o e => by
    show L2.upd _ D _ b = _
    rw [upd_ne (ne_of_none e hD0), upd_ne (ne_of_none e l0)]
    exact hs b o e
  have lq : l ∉ qs := fun z => by
    obtain ⟨i, hi⟩ := List.getElem?_of_mem z
    obtain ⟨r, _, xs, hx, _⟩ := Paired.get hq hi
    rw [hl] at hx; cases hx
  refine ⟨s1, upd_same, ?_, fun q hq => ?_, ?_, fun z => ?_⟩
  · rw [List.take_add_one, hr]
    refine Paired.snoc ?_ ⟨xs, by show L2.upd _ D _ l = _; rw [upd_ne lD, upd_same], Paired.mapP m fun x e z => z.keep (S := fun _ => False) (fun b o e _ => s1 b o e) (fun _ _ z => z.elim)⟩
    have k : Kept (fun b => b = D) H H' := fun b o e n => by
      show L2.upd _ D _ b = _
      rw [upd_ne n, upd_ne (ne_of_none e hl)]
      exact e
    have nt : NoTup (fun b => b = D) H := fun b xs hb z => by rw [hb, hD] at z; cases z
    have gen : ∀ {qs : List Addr} {rs : Rows}, Paired (RowA H) qs rs → D ∉ qs → Paired (RowA H') qs rs := by
      intro qs rs m
      induction m with
      | nil => intro _; exact .nil
      | @cons p r ps rs q t ih => intro n; exact .cons (q.keep k nt fun z => n (by rw [z]; exact List.mem_cons_self)) (ih fun z => n (List.mem_cons_of_mem _ z))
    exact gen hq nD
  · rcases List.mem_append.mp hq with z | z
    · exact hn q z
    · have : q = l := by simpa using z
      rw [this]; exact l0
  · refine List.nodup_append.mpr ⟨nd, by simp, fun a ha b hb => ?_⟩
    rintro rfl
    have : a = l := by simpa using hb
    exact lq (this ▸ ha)
  · rcases List.mem_append.mp z with z | z
    · exact nD z
    · have : D = l := by simpa using z
      exact lD this.symm
theorem placesRow_len (k : Kd) (h : Nat) : ∀ (p : Nat) (r : List Ev), (placesRow k h p r).length ≤ r.length
  | _, [] => Nat.le_refl _
  | p, e :: r => by
    have := placesRow_len k h (p + 1) r
    rw [placesRow, List.length_append, List.length_cons]
    split <;> simp <;> lia
theorem placesFrom_len (k : Kd) : ∀ (n : Nat) (rs : Rows), (∀ r ∈ rs, r.length ≤ 6) → (placesFrom k n rs).length ≤ 6 * rs.length
  | _, [], _ => Nat.le_refl _
  | n, r :: rs, h => by
    have h1 := placesFrom_len k (n + 1) rs fun x hx => h x (List.mem_cons_of_mem _ hx)
    have h2 := placesRow_len k n 0 r
    have h3 := h r List.mem_cons_self
    rw [placesFrom, List.length_append, List.length_cons]
    lia
theorem soFar_len {k : Kd} {rs : Rows} (b : Bnd rs) (i j : Nat) : (soFar k rs i j).length ≤ 24 := by
  have h1 := (soFar_pre (k := k) (rs := rs) (i := i) (j := j)).length_le
  have h2 := placesFrom_len k 0 rs fun r hr => by
    obtain ⟨i, hi⟩ := List.getElem?_of_mem hr
    exact b.len i r hi
  have h3 := b.hi
  unfold places at h1
  lia
theorem sum_set : ∀ {cs : List Nat} {h c : Nat}, cs[h]? = some c → (cs.set h (c + 1)).sum = cs.sum + 1
  | [], _, _, e => by simp at e
  | a :: cs, 0, c, e => by
    have : a = c := by simpa using e
    subst this
    simp
    lia
  | a :: cs, h + 1, c, e => by
    rw [List.set_cons_succ, List.sum_cons, List.sum_cons, sum_set (by simpa using e)]
    lia
theorem sum_le : ∀ {cs : List Nat} {rs : Rows}, cs.length = rs.length → (∀ (h c : Nat) (r : List Ev), cs[h]? = some c → rs[h]? = some r → c ≤ r.length) → cs.sum ≤ (rs.map List.length).sum
  | [], [], _, _ => Nat.le_refl _
  | c :: cs, r :: rs, hl, h => by
    have h0 := h 0 c r rfl rfl
    have ih := sum_le (cs := cs) (rs := rs) (by simpa using hl) fun i c r h1 h2 => h (i + 1) c r (by simpa using h1) (by simpa using h2)
    rw [List.sum_cons, List.map_cons, List.sum_cons]
    lia
theorem Reach.sum {rs : Rows} {cs : List Nat} (q : Reach rs cs) : cs.sum ≤ (rs.map List.length).sum := sum_le q.len q.le
noncomputable def StuckAt (rs : Rows) (cs : List Nat) (h : Nat) : Prop := ∀ (c : Nat) (e : Ev), cs[h]? = some c → at? rs h c = some e → ¬ Free rs cs e
theorem csV_get {cs : List Nat} {h c : Nat} (e : cs[h]? = some c) : atI (csV cs) ((h : Nat) : Int) = some (.int (c : Nat)) := by
  refine atI_nat ?_
  unfold csV
  rw [List.getElem?_map, e]
  rfl
theorem ixN_nat {n j : Nat} (h : j < n) : ixN n ((j : Nat) : Int) = some j := by
  unfold ixN
  rw [if_pos (by lia), if_pos (by lia)]
  simp
structure DoneI (H H2 : Hp) (c : Addr) (cs : List Nat) (rs : Rows) : Prop where
  same : Same H H2
  hc : H2 c = some (.lst (csV cs))
  rc : Reach rs cs
theorem DoneI.new {H H2 : Hp} {c : Addr} {cs : List Nat} {rs : Rows} (d : DoneI H H2 c cs rs) {p : Addr} {o : HO} (hp : H2 p = none) : DoneI H (L2.upd H2 p o) c cs rs := ⟨d.same.trans (Same.new hp), Same.new hp _ _ d.hc, d.rc⟩
theorem DoneI.step {H H2 : Hp} {c : Addr} {cs : List Nat} {rs : Rows} (d : DoneI H H2 c cs rs) (hc : H c = none) {i ci : Nat} {e : Ev} (h1 : cs[i]? = some ci) (h2 : at? rs i ci = some e) (h3 : Free rs cs e) : DoneI H (L2.upd H2 c (.lst ((csV cs).set i (.int ((ci : Nat) + 1 : Int))))) c (cs.set i (ci + 1)) rs := by
  refine ⟨fun b o z => by rw [upd_ne (ne_of_none z hc)]; exact d.same b o z, ?_, d.rc.step h1 h2 h3⟩
  rw [upd_same]
  unfold csV
  rw [List.map_set]
  rfl
theorem nRS : ¬ (("rows" : Str) = "sends") := by decide +kernel
theorem nRT : ¬ (("rows" : Str) = "takes") := by decide +kernel
theorem nST : ¬ (("sends" : Str) = "takes") := by decide +kernel
theorem lk_one {f : Str} {v : V} {r : List (Str × V)} : ((f, v) :: r).lookup f = some v := by rw [List.lookup_cons, beq_self_eq_true]
theorem lk_two {f g : Str} {v : V} {r : List (Str × V)} (h : ¬ f = g) : ((g, v) :: r).lookup f = r.lookup f := by
  rw [List.lookup_cons]
  have : (f == g) = false := by simpa using h
  rw [this]
theorem put1 (a : Addr) : putF "rows" (.ref a) [] = [(("rows" : Str), V.ref a)] := rfl
theorem put2 (a sd : Addr) : putF "sends" (.ref sd) [(("rows" : Str), V.ref a)] = ([(("rows" : Str), V.ref a), (("sends" : Str), V.ref sd)] : List (Str × V)) := by
  show (if ("rows" : Str) = "sends" then _ else (("rows" : Str), V.ref a) :: putF "sends" (.ref sd) []) = _
  rw [if_neg nRS]
  rfl
theorem put3 (a sd td : Addr) : putF "takes" (.ref td) [(("rows" : Str), V.ref a), (("sends" : Str), V.ref sd)] = recF a sd td := by
  show (if ("rows" : Str) = "takes" then _ else (("rows" : Str), V.ref a) :: (if ("sends" : Str) = "takes" then _ else (("sends" : Str), V.ref sd) :: putF "takes" (.ref td) [])) = _
  rw [if_neg nRT, if_neg nST]
  rfl
theorem rec_rows (a sd td : Addr) : (recF a sd td).lookup ("rows" : Str) = some (V.ref a) := lk_one
theorem rec_sends (a sd td : Addr) : (recF a sd td).lookup ("sends" : Str) = some (V.ref sd) := by
  unfold recF
  rw [lk_two (fun z => nRS z.symm), lk_one]
theorem rec_takes (a sd td : Addr) : (recF a sd td).lookup ("takes" : Str) = some (V.ref td) := by
  unfold recF
  rw [lk_two (fun z => nRT z.symm), lk_two (fun z => nST z.symm), lk_one]
theorem SendsA.keep {S : Addr → Prop} {H H' : Hp} {d : Addr} {rs : Rows} (k : Kept S H H') (n : NoTup S H) (nd : ¬ S d) (h : SendsA H d rs) : SendsA H' d rs := by
  obtain ⟨kvs, rd, m⟩ := h
  refine ⟨kvs, ?_, Paired.mapP m fun x y z => z.keep k n⟩
  rcases rd with rd | ⟨o, rd⟩
  · exact .inl (k _ _ rd nd)
  · exact .inr ⟨o, k _ _ rd nd⟩
theorem TakesA.keep {S : Addr → Prop} {H H' : Hp} {d : Addr} {rs : Rows} (k : Kept S H H') (n : NoTup S H) (nd : ¬ S d) (h : TakesA H d rs) : TakesA H' d rs := by
  obtain ⟨kvs, rd, m⟩ := h
  refine ⟨kvs, ?_, Paired.mapP m fun x y z => z.keep k n⟩
  rcases rd with rd | ⟨o, rd⟩
  · exact .inl (k _ _ rd nd)
  · exact .inr ⟨o, k _ _ rd nd⟩
theorem RecA.keep {S : Addr → Prop} {C : Addr} {H H' : Hp} {x a sd td : Addr} {ps : List Addr} {rs : Rows} (k : Kept S H H') (n : NoTup S H) (nx : ¬ S x) (na : ¬ S a) (np : ∀ p ∈ ps, ¬ S p) (ns : ¬ S sd) (nt : ¬ S td) (h : RecA C H x rs a ps sd td) : RecA C H' x rs a ps sd td :=
  ⟨let ⟨dx, e⟩ := h.ob; ⟨dx, k _ _ e nx⟩, h.rows.keep k n na np, h.sends.keep k n ns, h.takes.keep k n nt, h.val⟩
theorem RecA.same {C : Addr} {H H' : Hp} {x a sd td : Addr} {ps : List Addr} {rs : Rows} (k : Same H H') (h : RecA C H x rs a ps sd td) : RecA C H' x rs a ps sd td :=
  h.keep (S := fun _ => False) (fun b o e _ => k b o e) (fun _ _ z => z.elim) (fun z => z) (fun z => z) (fun _ _ z => z) (fun z => z) (fun z => z)
noncomputable def PosAt (H : Hp) (x : V) (o : Nat × Nat) : Prop := ∃ t, x = .ref t ∧ H t = some (.tup [.int (o.1 : Nat), .int (o.2 : Nat)])
theorem PosAt.keep {S : Addr → Prop} {H H' : Hp} {x : V} {o : Nat × Nat} (k : Kept S H H') (n : NoTup S H) (h : PosAt H x o) : PosAt H' x o := by
  obtain ⟨p, rfl, q⟩ := h
  exact ⟨p, rfl, k p _ q fun z => n p _ z q⟩
theorem PosAt.same {H H' : Hp} {x : V} {o : Nat × Nat} (k : Same H H') (h : PosAt H x o) : PosAt H' x o := h.keep (S := fun _ => False) (fun b o e _ => k b o e) (fun _ _ z => z.elim)
noncomputable def EvsA (H : Hp) (f : Addr) (os : List (Nat × Nat)) : Prop := ∃ xs, H f = some (.lst xs) ∧ Paired (PosAt H) xs os
theorem EvsA.same {H H' : Hp} {f : Addr} {os : List (Nat × Nat)} (k : Same H H') (h : EvsA H f os) : EvsA H' f os := by
  obtain ⟨xs, h1, h2⟩ := h
  exact ⟨xs, k _ _ h1, Paired.mapP h2 fun _ _ z => z.same k⟩
inductive sp_eventsP (vs : List V) (H : Hp) (Q : VK) (x_3 : XK) : Prop
  | mk (a : Addr) (ps : List Addr) (rs : Rows) (h_0 : vs = [.ref a]) (h_1 : RowsA H a ps rs) (h_2 : Bnd rs) (h_3 : ∀ (f : Addr) (H' : Hp), Same H H' → H f = none → EvsA H' f (evs rs) → Q (.ref f) H')
noncomputable def sp_events : Sp := fun vs H Q x_3 => sp_eventsP vs H Q x_3
theorem evs_more {H0 H : Hp} {f t : Addr} {os : List (Nat × Nat)} {xs : List V} {o : Nat × Nat} (s : Same H0 H) (hf0 : H0 f = none) (hf : H f = some (.lst xs)) (m : Paired (PosAt H) xs os) (ht : H t = some (.tup [.int (o.1 : Nat), .int (o.2 : Nat)])) :
    Same H0 (L2.upd H f (.lst (xs ++ [.ref t]))) ∧ EvsA (L2.upd H f (.lst (xs ++ [.ref t]))) f (os ++ [o]) := by
  have k : Kept (fun b => b = f) H (L2.upd H f (.lst (xs ++ [.ref t]))) := Kept.upd rfl
  have n : NoTup (fun b => b = f) H := fun b ys hb z => by rw [hb, hf] at z; cases z
  refine ⟨fun b u z => by rw [upd_ne (ne_of_none z hf0)]; exact s b u z, _, upd_same, Paired.snoc (Paired.mapP m fun _ _ z => z.keep k n) ?_⟩
  exact PosAt.keep k n ⟨t, rfl, ht⟩
noncomputable def posV (o : Pl) : List V := [.int (o.1 : Nat), .int (o.2 : Nat)]
theorem posV_inj {a b : Pl} (h : posV a = posV b) : a = b := by
  obtain ⟨a1, a2⟩ := a
  obtain ⟨b1, b2⟩ := b
  unfold posV at h
  injection h with h1 h2
  injection h2 with h2 _
  injection h1 with h1
  injection h2 with h2
  have e1 : a1 = b1 := by exact_mod_cast h1
  have e2 : a2 = b2 := by exact_mod_cast h2
  rw [e1, e2]
theorem pos_mean (K : PySem.W.Frag) {H : Hp} {t : Addr} {o : Pl} (h : H t = some (.tup (posV o))) : MTup K MFl H (.ref t) (posV o) := ⟨t, _, rfl, SqT.of h, .cons ⟨rfl, rfl⟩ (.cons ⟨rfl, rfl⟩ .nil)⟩
theorem head_mean (K : PySem.W.Frag) {H : Hp} {t : Addr} {k : Kd} {l : Int} (h : H t = some (.tup [.str k.str, .int l])) : MTup K MFl H (.ref t) [.str k.str, .int l] := ⟨t, _, rfl, SqT.of h, .cons ⟨rfl, rfl⟩ (.cons ⟨rfl, rfl⟩ .nil)⟩
theorem head_cut (e : Ev) : cutV e.vs none (some 2) = [.str e.k.str, .int e.l] := rfl
theorem head_part (e : Ev) : ¬ (HT.sIx e.vs.length 0 none = 0 ∧ HT.sIx e.vs.length e.vs.length (some 2) = e.vs.length) := fun h => absurd h.2 (by show ¬ (2 = 3); decide)
theorem head_dec (k k' : Kd) (l l' : Int) : decide (([.str k.str, .int l] : List V) = [.str k'.str, .int l']) = decide (k = k' ∧ l = l') := decide_eq_decide.mpr ⟨fun h => by
  injection h with h1 h2
  injection h2 with h2 _
  injection h1 with h1
  injection h2 with h2
  exact ⟨Kd.str_inj h1, h2⟩, fun ⟨h1, h2⟩ => by rw [h1, h2]⟩
theorem evs_mean (K : PySem.W.Frag) {H : Hp} {f : Addr} {os : List Pl} (h : EvsA H f os) : MLst K (MTup K MFl) H (.ref f) (os.map posV) := by
  obtain ⟨xs, h1, h2⟩ := h
  refine ⟨f, xs, rfl, SqL.of h1, ?_⟩
  clear h1
  induction h2 with
  | nil => exact .nil
  | @cons x o xs os z t ih =>
    obtain ⟨p, rfl, hp⟩ := z
    exact .cons (pos_mean K hp) ih
theorem mem_posV {o : Pl} {os : List Pl} : posV o ∈ os.map posV ↔ o ∈ os := by
  constructor
  · intro h
    obtain ⟨x, hx, e⟩ := List.mem_map.mp h
    exact posV_inj e ▸ hx
  · exact fun h => List.mem_map.mpr ⟨o, h, rfl⟩
theorem em_not {o : Pl} {os : List Pl} {inst : Decidable (posV o ∈ os.map posV)} {i2 : Decidable (true = true)} : V.bl (@ite _ (true = true) i2 (!(@decide _ inst)) (@decide _ inst)) = V.bl (!decide (o ∈ os)) := by
  rw [if_pos rfl]
  exact congrArg (fun b => V.bl (!b)) (decide_eq_decide.mpr mem_posV)
theorem em_in {o : Pl} {os : List Pl} {inst : Decidable (posV o ∈ os.map posV)} {i2 : Decidable (false = true)} : V.bl (@ite _ (false = true) i2 (!(@decide _ inst)) (@decide _ inst)) = V.bl (decide (o ∈ os)) := by
  rw [if_neg Bool.false_ne_true]
  exact congrArg V.bl (decide_eq_decide.mpr mem_posV)
theorem RowsA.ev {H : Hp} {a : Addr} {ps : List Addr} {rs : Rows} (h : RowsA H a ps rs) {o : Pl} {e : Ev} (he : at? rs o.1 o.2 = some e) : ∃ rp xs te, (ps.map V.ref)[o.1]? = some (.ref rp) ∧ H rp = some (.lst xs) ∧ xs[o.2]? = some (.ref te) ∧ H te = some (.tup e.vs) := by
  obtain ⟨r, hr, hre⟩ := at_some he
  obtain ⟨rp, hrp, xs, hxs, m⟩ := h.row hr
  obtain ⟨y, hy, te, rfl, hte⟩ := Paired.getR m hre
  exact ⟨rp, xs, te, by rw [List.getElem?_map, hrp]; rfl, hxs, hy, hte⟩
theorem Same.off {H H2 : Hp} {b : Addr} {o : HO} (s : Same H H2) (hb : H b = none) : Same H (L2.upd H2 b o) := fun c u z => by rw [upd_ne (ne_of_none z hb)]; exact s c u z
inductive sp_sendP (vs : List V) (H : Hp) (Q : VK) (x_3 : XK) : Prop
  | mk (a : Addr) (ps : List Addr) (rs : Rows) (l : Int) (h_0 : vs = [.ref a, .int l]) (h_1 : RowsA H a ps rs) (h_2 : Bnd rs) (h_3 : ∀ (v : V) (H' : Hp), Same H H' → ((∃ t o e, v = .ref t ∧ H' t = some (.tup (posV o)) ∧ at? rs o.1 o.2 = some e ∧ e.k = .send ∧ e.l = l) ∨ (v = .non ∧ ∀ (o : Pl) (e : Ev), at? rs o.1 o.2 = some e → e.k = .send → e.l ≠ l)) → Q v H')
noncomputable def sp_send : Sp := fun vs H Q x_3 => sp_sendP vs H Q x_3
theorem ints_at {ns : List Int} {h : Nat} {n : Int} (e : ns[h]? = some n) : atI (ns.map V.int) ((h : Nat) : Int) = some (.int n) := by
  refine atI_nat ?_
  rw [List.getElem?_map, e]
  rfl
end
end Cw

set_option Elab.async false
set_option linter.all false
set_option maxRecDepth 100000
set_option maxHeartbeats 4000000
namespace L2
open PySem PySem.Spec PyProof.Rows
section
variable {prog : Program} {w : World} {A : Around} {E : Value → Shared → Prop} {s : Shared}
end
end L2

set_option Elab.async false
set_option linter.all false
set_option maxRecDepth 100000
set_option maxHeartbeats 4000000
namespace Cw
open PySem L2
end Cw

set_option Elab.async false
set_option linter.all false
set_option maxRecDepth 100000
set_option maxHeartbeats 4000000
namespace L2
open PySem PySem.Spec PyProof.Rows
section
variable {prog : Program} {w : World} {A : Around} {E : Value → Shared → Prop} {s : Shared}
end
section
variable {prog : Program} {w : World} {A : Around} {E : Value → Shared → Prop} {s : Shared}
end
section
variable {X : Cx} {pins : List (Addr × Obj)} {σ : St} {H : Hp} {s : Shared} {h' : Heap}
end
section
variable {X : Cx}
end
end L2

set_option Elab.async false
set_option linter.all false
set_option maxRecDepth 100000
set_option maxHeartbeats 4000000
namespace L2
open PySem PySem.Spec PyProof.Rows
theorem Same.off {H H2 : Hp} {b : Addr} {o : HO} (s : Same H H2) (hb : H b = none) : Same H (upd H2 b o) := fun c u z => by rw [upd_ne (ne_of_none z hb)]; exact s c u z
end L2
namespace Cw
open PySem L2
noncomputable def FreeI (rs : Rows) (ns : List Int) (e : Ev) : Prop := e.k = .take → ∃ (h p : Nat) (n : Int) (e' : Ev), at? rs h p = some e' ∧ e'.k = .send ∧ e'.l = e.l ∧ ns[h]? = some n ∧ (p : Int) < n
noncomputable def natI (cs : List Nat) : List Int := cs.map fun n => ((n : Nat) : Int)
theorem csV_natI (cs : List Nat) : csV cs = (natI cs).map V.int := by
  unfold csV natI
  rw [List.map_map]
  rfl
theorem natI_len (cs : List Nat) : (natI cs).length = cs.length := by unfold natI; rw [List.length_map]
theorem natI_get {cs : List Nat} {h : Nat} : (natI cs)[h]? = (cs[h]?).map fun n => ((n : Nat) : Int) := by unfold natI; rw [List.getElem?_map]
theorem freeI_nat {rs : Rows} {cs : List Nat} {e : Ev} : FreeI rs (natI cs) e ↔ Free rs cs e := by
  constructor
  · intro h hk
    obtain ⟨h', p, n, e', a, b, c, d, lt⟩ := h hk
    rw [natI_get] at d
    obtain ⟨m, hm, rfl⟩ := Option.map_eq_some_iff.mp d
    exact ⟨h', p, m, e', a, b, c, hm, by lia⟩
  · intro h hk
    obtain ⟨h', p, m, e', a, b, c, d, lt⟩ := h hk
    exact ⟨h', p, m, e', a, b, c, by rw [natI_get, d]; rfl, by lia⟩
inductive sp_canSP (K : PySem.W.Frag) (vs : List V) (H : Hp) (Q : VK) (x_3 : XK) : Prop
  | mk (t : Addr) (sd : Addr) (c : Addr) (e : Ev) (ns : List Int) (rs : Rows) (h_0 : vs = [.ref t, .ref sd, .ref c]) (h_1 : H t = some (.tup e.vs)) (h_2 : SendsA H sd rs) (h_3 : Sq K H c (ns.map V.int)) (h_4 : ns.length = rs.length) (h_5 : Uniq .send rs) (h_6 : (e.k = .take → ∃ (h' p' : Nat) (e' : Ev), at? rs h' p' = some e' ∧ e'.k = .send ∧ e'.l = e.l)) (h_7 : ∀ b : Bool, (b = true ↔ FreeI rs ns e) → Q (.bl b) H)
noncomputable def sp_canS (K : PySem.W.Frag) : Sp := fun vs H Q x_3 => sp_canSP K vs H Q x_3
theorem can_of_canS {K : PySem.W.Frag} {vs : List V} {H : Hp} {Q : VK} {E : XK} (h : sp_can vs H Q E) : sp_canS K vs H Q E := by
  obtain ⟨t, sd, c, e, cs, rs, e1, h1, h2, h3, h4, h5, h6, q⟩ := h
  refine ⟨t, sd, c, e, natI cs, rs, e1, h1, h2, .inl (SqL.of (by rw [← csV_natI]; exact h3)), by rw [natI_len]; exact h4, h5, h6, fun b hb => q b ?_⟩
  rw [hb, freeI_nat]
end Cw

set_option Elab.async false
set_option linter.all false
set_option maxRecDepth 100000
set_option maxHeartbeats 4000000
namespace L2
open PySem PySem.Spec PyProof.Rows
inductive rIntBP (xs : List V) (H : Hp) (Q : VK) : Prop
  | mk (b : Bool) (h_0 : xs = [.bl b]) (h_1 : Q (.int (if b then 1 else 0)) H)
noncomputable def rIntB : List V → Hp → VK → Prop := fun xs H Q => rIntBP xs H Q
theorem call_intB {X : Cx} : CallR X (.type "int") rIntB := by
  intro pins s σ H xs us Q I r h
  obtain ⟨b, rfl, q⟩ := h
  obtain ⟨u, rfl, ru⟩ := vals1 r
  cases ru
  exact call_int_bool ⟨.int (if b then 1 else 0), H, I.tok _, ⟨_, rfl⟩, q⟩
theorem if_mid {tc : TT} {t r : TS} {D : Ends} {σ : St} {H : Hp} (c : Bool) (J : St → Hp → Prop) (hc : ∀ R : Bool → Hp → Prop, R c H → tc σ H R) (h0 : c = false → J σ H)
    (h1 : c = true → (∀ σ' H', J σ' H' → r D σ' H') → t (D.sq r) σ H) (hr : ∀ σ' H', J σ' H' → r D σ' H') : tSeq (tIfS tc t tNext) r D σ H := by
  refine hc _ ?_
  cases c with
  | true => rw [if_pos rfl]; exact h1 rfl hr
  | false => rw [if_neg Bool.false_ne_true]; exact hr _ _ (h0 rfl)
theorem tAnd_mk {t u : TT} {σ : St} {H : Hp} {c d : Bool} {R : Bool → Hp → Prop} (ha : ∀ R : Bool → Hp → Prop, R c H → t σ H R) (hb : c = true → ∀ R : Bool → Hp → Prop, R d H → u σ H R) (h : R (c && d) H) : tAnd t u σ H R := by
  refine ha _ ?_
  cases c with
  | true => rw [if_pos rfl]; exact hb rfl _ h
  | false => rw [if_neg Bool.false_ne_true]; exact h
end L2
namespace Cw
open PySem L2
end Cw

set_option Elab.async false
set_option linter.all false
set_option maxRecDepth 100000
set_option maxHeartbeats 4000000
namespace Cw
open PySem L2
theorem lt_of_get {α : Type} {l : List α} {h : Nat} {x : α} (e : l[h]? = some x) : h < l.length := (List.getElem?_eq_some_iff.mp e).1
theorem snoc_take {α : Type} {l : List α} {i : Nat} {x : α} (h : l[i]? = some x) : l.take (i + 1) = l.take i ++ [x] := by rw [List.take_add_one, h]; rfl
end Cw
namespace Cw
open PySem L2
end Cw

set_option Elab.async false
set_option linter.all false
set_option maxRecDepth 100000
set_option maxHeartbeats 4000000
namespace Cw
open PySem L2
end Cw

set_option Elab.async false
set_option linter.all false
set_option maxRecDepth 100000
namespace L2
open PySem PySem.Spec PyProof.Rows

noncomputable def exO (a : Addr) (c : Value) (od : Option Addr) : HO := .ext fun h => ∃ oe vs, h.get? a = some oe ∧ oe.cls = c ∧ oe.dict = od ∧ oe.data = .fields vs ∧ 1 < vs.size
noncomputable def tbO (T : Addr) : HO := .ext fun h => ∃ oT ts, h.get? T = some oT ∧ oT.data = .fields ts ∧ 3 < ts.size
noncomputable def Tb (h : Heap) (H : Hp) (a : Addr) (fl : Value) : Prop :=
  ∃ oe vs T oT ts, h.get? a = some oe ∧ oe.data = .fields vs ∧ vs[1]? = some (.ref T) ∧ T ≠ a ∧ H T = some (tbO T) ∧ h.get? T = some oT ∧ oT.data = .fields ts ∧ ts[3]? = some fl
noncomputable def NoTb (h : Heap) (a : Addr) : Prop := ∃ oe vs, h.get? a = some oe ∧ oe.data = .fields vs ∧ vs[1]? = some .none
noncomputable def Xt (H H' : Hp) : Prop := ∀ b, H' b = H b ∨ (H b = none ∧ H' b = some (tbO b))
theorem Xt.refl (H : Hp) : Xt H H := fun _ => .inl rfl
theorem Xt.trans {H H1 H2 : Hp} (x : Xt H H1) (y : Xt H1 H2) : Xt H H2 := fun b => by
  rcases x b with e | ⟨e1, e2⟩
  · rcases y b with f | ⟨f1, f2⟩
    · exact .inl (f.trans e)
    · exact .inr ⟨e ▸ f1, f2⟩
  · rcases y b with f | ⟨f1, f2⟩
    · exact .inr ⟨e1, f.trans e2⟩
    · rw [e2] at f1; cases f1
theorem Xt.same {H H' : Hp} (x : Xt H H') : Same H H' := fun b o e => by
  rcases x b with f | ⟨f1, _⟩
  · exact f.trans e
  · rw [f1] at e; cases e
theorem Xt.upd {H : Hp} {T : Addr} (h : H T = none) : Xt H (upd H T (tbO T)) := fun b => by
  by_cases e : b = T
  · subst e; exact .inr ⟨h, upd_same⟩
  · exact .inl (upd_ne e)

section
variable {P : Program} {w : World} {H H' : Hp} {h h' : Heap} {a : Addr} {o : HO}
theorem ObjOk.there (x : ObjOk P w H h a o) : ∃ ob, h.get? a = some ob := by
  cases o with
  | lst xs => obtain ⟨_, _, _, _, e⟩ := x; exact ⟨_, e⟩
  | tup xs => obtain ⟨_, _, _, ob, e, _⟩ := x; exact ⟨ob, e⟩
  | dK kvs => obtain ⟨_, _, _, _, o, _, _, e, _⟩ := x; exact ⟨_, e⟩
  | dT kvs => obtain ⟨_, _, _, _, o, _, _, e, _⟩ := x; exact ⟨_, e⟩
  | set S n => obtain ⟨o, _, _, _, e, _⟩ := x; exact ⟨_, e⟩
  | ins C dx fs => obtain ⟨_, _, _, e, _⟩ := x; exact ⟨_, e⟩
  | own y => exact x
  | xd fs => obtain ⟨_, ⟨o, _, _, e, _⟩, _⟩ := x; exact ⟨_, e⟩
  | rng lo hi => obtain ⟨_, _, _, e⟩ := x; exact ⟨_, e⟩
  | frz ob u => obtain ⟨e, _⟩ := x; exact ⟨_, e⟩
  | tbl ps => exact ⟨_, x⟩
  | met f y => exact ⟨_, x⟩
  | ext φ => obtain ⟨_, e, _⟩ := x; exact e
theorem HOk.new (x : HOk P w H h) (e : h.get? a = none) : H a = none := by
  cases q : H a with
  | none => rfl
  | some u =>
    obtain ⟨ob, z⟩ := (x a u q).there
    rw [e] at z; cases z
theorem HOk.laidN (x : HOk P w H h) (k : ∀ b u, h.get? b = some u → h'.get? b = some u) (hp : h.get? a = none) (new : ObjOk P w (upd H a o) h' a o) : HOk P w (upd H a o) h' := fun b u e => by
  have hn := x.new hp
  by_cases hb : b = a
  · subst hb; rw [upd_same] at e; cases e; exact new
  · rw [upd_ne hb] at e
    exact (x b u e).stay (fun c v _ q => k c v q) (fun c q => by rw [upd_ne (ne_of_none q hn)]; exact q) fun c xs q => by rw [upd_ne (ne_of_none q hn)]; exact q
theorem Un.laidN {fs ex : List Addr} (k : ∀ b u, h.get? b = some u → h'.get? b = some u) (hp : h.get? a = none) (hn : H a = none) : Un fs ex H (upd H a o) h h' where
  keep := fun b u q _ _ _ => k b u q
  slot := fun b u q _ _ _ => ⟨u.slots, k b u q⟩
  free := fun b u q n _ => by rw [upd_ne (fun z => by rw [z, hp] at q; cases q)]; exact n
  there := fun b u q _ => ⟨u, k b u q⟩
  tups := fun b xs q => by rw [upd_ne (ne_of_none q hn)]; exact q
  frzs := fun b u xs q => by rw [upd_ne (ne_of_none q hn)]; exact q
  tbls := fun b ps q => ⟨#[], by rw [upd_ne (ne_of_none q hn), q]; simp⟩
theorem exO_ok {c : Value} {od : Option Addr} {oe : Obj} {vs : Array Value} (e : h.get? a = some oe) (h1 : oe.cls = c) (h2 : oe.dict = od) (h3 : oe.data = .fields vs) (h4 : 1 < vs.size) : ObjOk P w H h a (exO a c od) :=
  ⟨⟨oe, vs, e, h1, h2, h3, h4⟩, ⟨oe, e⟩, fun h1 h2 ⟨o1, v1, e1, r⟩ k => ⟨o1, v1, k _ e1, r⟩⟩
theorem tbO_ok {oe : Obj} {vs : Array Value} (e : h.get? a = some oe) (h3 : oe.data = .fields vs) (h4 : 3 < vs.size) : ObjOk P w H h a (tbO a) :=
  ⟨⟨oe, vs, e, h3, h4⟩, ⟨oe, e⟩, fun h1 h2 ⟨o1, v1, e1, r⟩ k => ⟨o1, v1, k _ e1, r⟩⟩
end

section
variable {M : Model} {A : Around} {E : Value → Shared → Prop} {s : Shared}
theorem entry_new {base : Heap} {env : Env} {outer : List Env} {L e : Addr} {oe : Obj} {vs : Array Value} {head : Value} {hadNext : Bool} {Q : Unit → Shared → Prop}
    (hfr : A.frames = some (env :: outer)) (hl : s.heap.FunFrames base (env :: outer)) (hf : env.frame = some L)
    (he : s.heap.get? e = some oe) (hd : oe.data = .fields vs) (hsz : 1 < vs.size)
    (h : ∀ h' T oT ts, s.heap.objs.size ≤ T → h'.get? T = some oT → oT.data = .fields ts → ts[3]? = some (rawInt L) → T ≠ e →
      (∀ b o, b ≠ e → b ∉ frs (env :: outer) → s.heap.get? b = some o → h'.get? b = some o) → (∀ b o, b ≠ e → s.heap.get? b = some o → ∃ sl, h'.get? b = some { o with slots := sl }) →
      h'.get? e = some (oe.mapFields (·.setIfInBounds 1 (.ref T))) → Q () { s with heap := h' }) :
    wpAny M A (do let a ← frameOf env; let pl ← entryPlaceOf L hadNext; let b ← EntryCells.newEntry head a .none (rawInt L) .none pl; setField (.ref e) 1 b) Q E s := by
  have hene : e ∉ (env :: outer).filterMap (·.frame) := fun hm => by
    obtain ⟨_, o, ho, hnf⟩ := hl.mem hm
    rw [he] at ho; injection ho with ho; subst ho; exact hnf vs hd
  refine wpAny_bind (wpAny_frameOf_fun hfr hl hf fun h₁ hs₁ => ?_)
  refine wpAny_bind (wpAny_entryPlaceOf fun pl hpl => ?_)
  unfold EntryCells.newEntry newFields
  refine wpAny_bind (wpAny_newObj_type ?_ (hpl.sizeOk5 _ _ _ _ _))
  have he₁ : h₁.get? e = some oe := (hs₁.2.1 e hene).trans he
  have he₂ := Heap.get?_push_of_some (h := h₁) { cls := .type "traceback", dict := none, data := .fields ([head, .ref L, .none, rawInt L, .none] ++ (if pl.isEmpty then List.replicate 6 Value.none else pl)).toArray } he₁
  have hTe : h₁.objs.size ≠ e := Nat.ne_of_gt (Heap.lt_size he₁)
  have hd₃ := Obj.data_mapFields hd (·.setIfInBounds 1 (Value.ref h₁.objs.size))
  have keep : ∀ b o, b ≠ e → h₁.get? b = some o →
      ((h₁.push { cls := .type "traceback", dict := none, data := .fields ([head, .ref L, .none, rawInt L, .none] ++ (if pl.isEmpty then List.replicate 6 Value.none else pl)).toArray }).update e (Obj.mapFields (·.setIfInBounds 1 (Value.ref h₁.objs.size)))).get? b = some o :=
    fun b o hbe hb => by
      rw [Heap.get?_update_other _ _ (Ne.symm hbe)]
      exact Heap.get?_push_of_some _ hb
  refine wpAny_setField he₂ hd hsz (h _ h₁.objs.size _ _ (by rw [hs₁.1]; exact Nat.le_refl _) ((Heap.get?_update_other _ _ (Ne.symm hTe)).trans (Heap.get?_push_size h₁ rfl)) rfl ?_ hTe (fun b o hb hm hbo => ?_) (fun b o hb hbo => ?_)
    (Heap.get?_update_self _ he₂ (Obj.isFreed_of_fields hd₃)))
  · first | (simp; done) | (rcases hpl with rfl | ⟨_, _, _, _, _, _, _, rfl⟩ <;> simp)
  · exact keep b o hb ((hs₁.2.1 b hm).trans hbo)
  · obtain ⟨sl, q⟩ := hs₁.2.2 b o hbo
    exact ⟨sl, keep b _ hb q⟩
end
end L2

set_option Elab.async false
set_option linter.all false
set_option maxRecDepth 100000
set_option maxHeartbeats 2000000
namespace L2
open PySem PySem.Spec PyProof.Rows
theorem dict_mapFields (o : Obj) (f : Array Value → Array Value) : (o.mapFields f).dict = o.dict := by
  obtain ⟨c, d, dt, sl⟩ := o; cases dt <;> rfl
theorem upd_id {H : Hp} {a : Addr} {o : HO} (e : H a = some o) : upd H a o = H := by
  funext b
  unfold upd
  split
  · rename_i h; rw [h, e]
  · rfl
theorem exO_get {P : Program} {w : World} {H : Hp} {h : Heap} {a : Addr} {c : Value} {od : Option Addr} (x : HOk P w H h) (e : H a = some (exO a c od)) :
    ∃ oe vs, h.get? a = some oe ∧ oe.cls = c ∧ oe.dict = od ∧ oe.data = .fields vs ∧ 1 < vs.size := (x a _ e).1
section
variable {X : Cx} {pins : List (Addr × Obj)} {σ : St} {H : Hp} {s : Shared} {M : Model} {E : Value → Shared → Prop}
theorem Inv.noted {h' : Heap} {a T : Addr} {c : Value} {od : Option Addr} {oe oT : Obj} {vs ts : Array Value} (I : Inv X pins σ H s) (ea : H a = some (exO a c od)) (hT : s.heap.objs.size ≤ T) (eT : h'.get? T = some oT) (dT : oT.data = .fields ts) (zT : 3 < ts.size)
    (keep : ∀ b o, b ≠ a → b ∉ frs X.stack → s.heap.get? b = some o → h'.get? b = some o) (slot : ∀ b o, b ≠ a → s.heap.get? b = some o → ∃ sl, h'.get? b = some { o with slots := sl })
    (he : h'.get? a = some oe) (hc : oe.cls = c) (hdc : oe.dict = od) (hd : oe.data = .fields vs) (hz : 1 < vs.size) : Inv X pins σ (upd H T (tbO T)) { s with heap := h' } := by
  have nT : H T = none := I.hok.fresh hT
  have na : ∀ b, H b = none → b ≠ a := fun b n z => by rw [z, ea] at n; cases n
  refine I.call' (ch := []) rfl ⟨fun b o q n hb _ => keep b o (na b n) hb q, fun b o q n _ _ => slot b o (na b n) q, fun b o q n _ => ?_, fun b o q _ => ?_, fun b xs q => ?_, fun b o u q => ?_, fun b ps q => ⟨#[], ?_⟩⟩ (fun b u q => ?_) I.bare (fun b z => absurd z (by simp))
  · rw [upd_ne (Nat.ne_of_lt (Nat.lt_of_lt_of_le (Heap.lt_size q) hT))]; exact n
  · by_cases hb : b = a
    · subst hb; exact ⟨_, he⟩
    · obtain ⟨sl, e⟩ := slot b o hb q
      exact ⟨_, e⟩
  · rw [upd_ne (ne_of_none q nT)]; exact q
  · rw [upd_ne (ne_of_none q nT)]; exact q
  · rw [upd_ne (ne_of_none q nT), q]; simp
  · by_cases hb : b = T
    · subst hb; rw [upd_same] at q; cases q; exact tbO_ok eT dT zT
    · rw [upd_ne hb] at q
      by_cases hba : b = a
      · subst hba
        rw [ea] at q; cases q
        exact exO_ok he hc hdc hd hz
      · refine (I.hok b u q).stay (fun x v hx e => ?_) (fun x e => by rw [upd_ne (ne_of_none e nT)]; exact e) fun x xs e => by rw [upd_ne (ne_of_none e nT)]; exact e
        rcases hx with rfl | hx
        · exact keep x v hba (fun z => by rw [I.stkFree x z] at q; cases q) e
        · refine keep x v (fun z => ?_) (fun z => by rw [I.stkFree x z] at hx; cases hx) e
          rw [z, ea] at hx; cases hx
theorem inv_note {a : Addr} {c : Value} {od : Option Addr} {Q : Unit → Shared → Prop} (hst : X.stack = X.env :: X.outer) (I : Inv X pins σ H s) (ea : H a = some (exO a c od)) (fl : NoTb s.heap a ∨ ∃ v, Tb s.heap H a v)
    (hQ : ∀ s' H', Inv X pins σ H' s' → H' a = some (exO a c od) → Tb s'.heap H' a (rawInt X.env.locals) → Xt H H' → Q () s') : wpAny M X.A (noteFrame (.ref a) X.env) Q E s := by
  have hf : X.env.frame = some X.env.locals := by
    rcases I.ok.stk with e | ⟨_, e⟩
    · rw [hst] at e
      have := congrArg List.length e
      simp at this
    · exact e
  have hfr : X.A.frames = some (X.env :: X.outer) := by rw [I.ok.frames, hst]
  have go : ∀ {s : Shared} {head : Value} {hn : Bool} (I : Inv X pins σ H s), wpAny M X.A (do let fo ← frameOf X.env; let pl ← entryPlaceOf X.env.locals hn; let b ← EntryCells.newEntry head fo .none (rawInt X.env.locals) .none pl; setField (.ref a) 1 b) (fun _ s' => ∃ H', Inv X pins σ H' s' ∧ H' a = some (exO a c od) ∧ Tb s'.heap H' a (rawInt X.env.locals) ∧ Xt H H') E s := by
    intro s head hn I
    obtain ⟨oe, vs, he, hc, hdc, hd, hz⟩ := exO_get I.hok ea
    have hl : s.heap.FunFrames X.base (X.env :: X.outer) := by rw [← hst]; exact I.stack
    refine entry_new hfr hl hf he hd hz fun h' T oT ts hT eT dT z3 hTe keep slot e' => ?_
    have nT : H T = none := I.hok.fresh hT
    have z : 3 < ts.size := (Array.getElem?_eq_some_iff.mp z3).1
    refine ⟨upd H T (tbO T), I.noted ea hT eT dT z (by rw [hst]; exact keep) slot e' (by rw [Obj.cls_mapFields]; exact hc) (by rw [dict_mapFields]; exact hdc) (Obj.data_mapFields hd _) (by simpa using hz), ?_, ?_, Xt.upd nT⟩
    · rw [upd_ne (ne_of_none ea nT)]; exact ea
    · exact ⟨_, _, T, oT, ts, e', Obj.data_mapFields hd _, by simp [hz], hTe, upd_same, eT, dT, z3⟩
  unfold noteFrame
  simp only [hf]
  rcases fl with ⟨oe, vs, he, hd, h1⟩ | ⟨fv, oe, vs, T, oT, ts, he, hd, h1, hTa, hTT, eT, dT, h3⟩
  · refine wpAny_bind (wpAny_field he hd h1 ?_)
    rw [if_neg (by decide)]
    exact wpAny_mono (go I) (fun _ s' ⟨H', r1, r2, r3, r4⟩ => hQ s' H' r1 r2 r3 r4) fun _ _ z => z
  · refine wpAny_bind (wpAny_field he hd h1 ?_)
    rw [if_pos (show (Value.ref T != Value.none) = true from by simp)]
    refine wpAny_bind (wpAny_field eT dT h3 ?_)
    by_cases hv : (fv == rawInt X.env.locals) = true
    · rw [if_pos hv]
      have ev : fv = rawInt X.env.locals := by simpa using hv
      subst ev
      exact wpAny_pure (hQ s H I ea ⟨oe, vs, T, oT, ts, he, hd, h1, hTa, hTT, eT, dT, h3⟩ (Xt.refl _))
    rw [if_neg hv]
    have z : 3 < ts.size := (Array.getElem?_eq_some_iff.mp h3).1
    refine wpAny_bind (wpAny_setField eT dT z ?_)
    have hdT := Obj.data_mapFields dT (·.setIfInBounds 3 Value.none)
    have eT' := Heap.get?_update_self (h := s.heap) (Obj.mapFields (·.setIfInBounds 3 Value.none)) eT (Obj.isFreed_of_fields hdT)
    have I1 := I.write (x := T) (e := T) (o := tbO T) (t' := s.toks) (h' := s.heap.update T (Obj.mapFields (·.setIfInBounds 3 Value.none))) (by rw [hTT]; trivial) (.inl rfl) (fun b u hb q => (Heap.get?_update_other _ _ (Ne.symm hb)).trans q) ⟨_, eT'⟩
      (tbO_ok eT' hdT (by simpa using z))
    rw [upd_id hTT] at I1
    exact wpAny_mono (go I1) (fun _ s' ⟨H', r1, r2, r3, r4⟩ => hQ s' H' r1 r2 r3 r4) fun _ _ z => z
theorem inv_flight {A : Around} {a : Addr} {fl : Value} {Q : Unit → Shared → Prop} (I : Inv X pins σ H s) (tb : Tb s.heap H a fl)
    (hQ : ∀ s', Inv X pins σ H s' → Tb s'.heap H a .none → Q () s') : wpAny M A (setFlight (.ref a) none) Q E s := by
  obtain ⟨oe, vs, T, oT, ts, he, hd, h1, hTa, hTT, eT, dT, h3⟩ := tb
  unfold setFlight
  refine wpAny_bind (wpAny_field he hd h1 ?_)
  rw [if_pos (show (Value.ref T != Value.none) = true from by simp)]
  have z : 3 < ts.size := (Array.getElem?_eq_some_iff.mp h3).1
  refine wpAny_setField eT dT z ?_
  have hdT := Obj.data_mapFields dT (·.setIfInBounds 3 ((none : Option Addr).elim Value.none fun f => rawInt f))
  have eT' := Heap.get?_update_self (h := s.heap) (Obj.mapFields (·.setIfInBounds 3 ((none : Option Addr).elim Value.none fun f => rawInt f))) eT (Obj.isFreed_of_fields hdT)
  have I1 := I.write (x := T) (e := T) (o := tbO T) (t' := s.toks) (h' := s.heap.update T (Obj.mapFields (·.setIfInBounds 3 ((none : Option Addr).elim Value.none fun f => rawInt f)))) (by rw [hTT]; trivial) (.inl rfl) (fun b u hb q => (Heap.get?_update_other _ _ (Ne.symm hb)).trans q) ⟨_, eT'⟩
    (tbO_ok eT' hdT (by simpa using z))
  rw [upd_id hTT] at I1
  exact hQ _ I1 ⟨oe, vs, T, _, _, (Heap.get?_update_other _ _ hTa).trans he, hd, h1, hTa, hTT, eT', hdT, by simp [z]⟩
theorem inv_flightF {A : Around} {a : Addr} {fl : Value} (fr : Option Addr) {Q : Unit → Shared → Prop} (I : Inv X pins σ H s) (tb : Tb s.heap H a fl)
    (hQ : ∀ s', Inv X pins σ H s' → Tb s'.heap H a (fr.elim Value.none fun f => rawInt f) → Q () s') : wpAny M A (setFlight (.ref a) fr) Q E s := by
  obtain ⟨oe, vs, T, oT, ts, he, hd, h1, hTa, hTT, eT, dT, h3⟩ := tb
  unfold setFlight
  refine wpAny_bind (wpAny_field he hd h1 ?_)
  rw [if_pos (show (Value.ref T != Value.none) = true from by simp)]
  have z : 3 < ts.size := (Array.getElem?_eq_some_iff.mp h3).1
  refine wpAny_setField eT dT z ?_
  have hdT := Obj.data_mapFields dT (·.setIfInBounds 3 (fr.elim Value.none fun f => rawInt f))
  have eT' := Heap.get?_update_self (h := s.heap) (Obj.mapFields (·.setIfInBounds 3 (fr.elim Value.none fun f => rawInt f))) eT (Obj.isFreed_of_fields hdT)
  have I1 := I.write (x := T) (e := T) (o := tbO T) (t' := s.toks) (h' := s.heap.update T (Obj.mapFields (·.setIfInBounds 3 (fr.elim Value.none fun f => rawInt f)))) (by rw [hTT]; trivial) (.inl rfl) (fun b u hb q => (Heap.get?_update_other _ _ (Ne.symm hb)).trans q) ⟨_, eT'⟩
    (tbO_ok eT' hdT (by simpa using z))
  rw [upd_id hTT] at I1
  exact hQ _ I1 ⟨oe, vs, T, _, _, (Heap.get?_update_other _ _ hTa).trans he, hd, h1, hTa, hTT, eT', hdT, by simp [z]⟩
end

noncomputable def Thrown (X : Cx) (W : St → XK) (e : Value) (s : Shared) : Prop :=
  ∃ σ H₁ H a c od, e = .ref a ∧ Inv X [] σ H s ∧ H₁ a = some (exO a c od) ∧ Xt H₁ H ∧ (NoTb s.heap a ∨ ∃ v, Tb s.heap H a v) ∧ W σ c od H₁
noncomputable def CXR (P : Program) (w : World) : CXT := fun outer H s E e s' =>
  ∃ H₁ H' a c od, e = .ref a ∧ s'.os = s.os ∧ AllBare s'.gens ∧ Un (frs outer) [] H H' s.heap s'.heap ∧ HOk P w H' s'.heap ∧ H₁ a = some (exO a c od) ∧ Xt H₁ H' ∧ Tb s'.heap H' a .none ∧ E c od H₁
noncomputable def Lets (X : Cx) (W : St → XK) : Prop := ∀ e s, Thrown X W e s → X.xe e s
theorem Lets.pass {X : Cx} {W : St → XK} {pins : List (Addr × Obj)} {σ : St} {H : Hp} {s s' : Shared} {e : Value} (l : Lets X W) (I : Inv X pins σ H s) (h : CXR X.prog X.w X.stack H s (W σ) e s') : X.xe e s' := by
  obtain ⟨H₁, H', a, c, od, he, os, bare, un, hok, ha, xt, tb, q⟩ := h
  exact l e s' ⟨σ, H₁, H', a, c, od, he, (I.call' (ch := []) os un hok bare (fun b z => absurd z (by simp))).pins_of (fun p z => absurd z (by simp)), ha, xt, .inr ⟨_, tb⟩, q⟩
section
variable {P : Program} {w : World} {K : PySem.W.Frag} {mg : Str → Option Value} {base : Heap}
theorem lets_def {N : List Str} {qual : Str} {scope : Scope} {f : Addr} {cd : Value} {A : Around} {outer : List Env} {s : Shared} {H : Hp} {E : XK} : Lets (cxOf (CXR P w) P w K mg base N qual scope f cd A outer s H E) (fun _ => E) := by
  rintro e s' ⟨σ, H₁, H2, a, c, od, rfl, I, ha, xt, fl, q⟩
  show wpAny (model P w) (A.deeper (envOfC qual scope s.heap.objs.size f cd)) (leaving (envOfC qual scope s.heap.objs.size f cd) (.ref a)) _ _ s'
  unfold leaving
  refine wpAny_bind (inv_note (X := cxOf (CXR P w) P w K mg base N qual scope f cd A outer s H E) rfl I (xt.same _ _ ha) fl fun s2 H3 I2 e2 tb2 x2 => ?_)
  refine inv_flight I2 tb2 fun s3 I3 tb3 => ?_
  exact ⟨H₁, H3, a, c, od, rfl, I3.os, I3.bare, I3.base, I3.hok, ha, xt.trans x2, tb3, q⟩
theorem own_def {N : List Str} {qual : Str} {scope : Scope} {f : Addr} {cd : Value} {A : Around} {outer : List Env} {s : Shared} {H : Hp} {E : XK} :
    PassesOwn (model P w) (cxOf (CXR P w) P w K mg base N qual scope f cd A outer s H E).A (cxOf (CXR P w) P w K mg base N qual scope f cd A outer s H E).env (cxOf (CXR P w) P w K mg base N qual scope f cd A outer s H E).xe :=
  PassesOwn.leaving
theorem Fun.okR {x qual : Str} {st : Stmt} {f : Addr} {fd : FuncData} {N ps : List Str} {k : Nat} {sp : Sp} (F : Fun K x qual st f fd) (S : FnScope N ps (defScope st)) (len : ∀ vs H Q E, sp vs H Q E → vs.length = ps.length)
    (hbody : ∀ (cdv : Value) (A : Around) (outer : List Env) (s : Shared) (H : Hp) (vs : List V) (Q : VK) (E : XK), Room k (A.deeper (envOfC qual (defScope st) s.heap.objs.size f cdv)) → sp vs H Q E →
      ∃ t, PSs (cxOf (CXR P w) P w K mg base N qual (defScope st) f cdv A outer s H E) (defBody st) t ∧ t { nx := fun _ H' => Q .non H', rt := Q } (start N vs) H) : FnOk P w K mg base (CXR P w) (k + 1) f fd ps sp := by
  obtain ⟨oc, od, kV, doc, pm, an, cdv, ct, osl, rfl, lk, hcd⟩ := F.ex
  exact fn_of lk hcd S len fun A outer s H vs Q E hr hsp => hbody cdv A outer s H vs Q E hr hsp
end
end L2

set_option Elab.async false
set_option linter.all false
set_option maxRecDepth 100000
set_option maxHeartbeats 2000000
namespace L2
open PySem PySem.Spec PyProof.Rows

section
variable {X : Cx} {k : Nat} {f C : Addr} {fd : FuncData} {ps : List Str} {sp : Sp} {W : St → XK} {x m : Str} {p pos apos : Pos} {e o : Expr} {es : List Expr} {ta : TE} {t : TA}
noncomputable def tCallR (sp : Sp) (W : St → XK) (t : TA) : TE := fun σ H Q => t σ H fun vs H1 => sp vs H1 Q (W σ)
noncomputable def tMakeR (C : Addr) (sp : Sp) (W : St → XK) (t : TA) : TE := fun σ H Q => t σ H fun vs H1 => ∀ x dx, H1 x = none → H1 dx = none → dx ≠ x →
  sp (.ref x :: vs) (upd (upd H1 dx (.own x)) x (.ins C dx [])) (fun v H2 => v = .non ∧ Q (.ref x) H2) (W σ)
theorem run_fnR {pins : List (Addr × Obj)} {σ : St} {H : Hp} {s : Shared} {Q : VK} {us : List Value} {vs : List V} (F : FnOk X.prog X.w X.K X.mg X.base (CXR X.prog X.w) k f fd ps sp) (hr : Room k X.A) (hb : Binds X.K fd ps []) (hx : Lets X W)
    (I : Inv X pins σ H s) (r : Vals vs us) (h : sp vs H Q (W σ)) : wpAny (model X.prog X.w) X.A (call (.ref f) us) (EP X pins σ Q) X.xe s := by
  have hl : us.length = ps.length := by rw [← r.length]; exact F.len _ _ _ _ h
  have hb' := hb s us I.kIn (by rw [List.append_nil]; exact hl)
  rw [List.append_nil] at hb'
  refine wpAny_call (codeAny_mono (F.run X.A X.stack s H ⟨us, []⟩ us vs Q (W σ) hr I.env0 hb' r h) fun r s' hq => ?_)
  cases r with
  | error e => exact hx.pass I hq
  | ok fl =>
    cases fl with
    | ret u => exact I.after hq
    | next => exact False.elim hq
    | brk => exact False.elim hq
    | cont => exact False.elim hq
theorem pe_callR (F : FnOk X.prog X.w X.K X.mg X.base (CXR X.prog X.w) k f fd ps sp) (hr : Room k X.A) (hg : Gl X x) (hm : X.mg x = some (.ref f)) (hk : PySem.W.keepIn X.K (.ref f) = true) (hb : Binds X.K fd ps []) (hx : Lets X W)
    (ha : PA X (e :: es) t) (hdb : (x == ("__debug__" : Str)) = false := by decide) (he : starEach (e :: es) X.env = (false, eval e X.env) :: starEach es X.env := by rfl) (hpl : (backTo pos (starEach es X.env)).any (·.1) = false := by rfl) :
    PE X (.Call (.Name x p) (e :: es) [] pos) (tCallR sp W t) := by
  intro pins s σ H Q I h
  refine wpAny_Call_Name_kw (ld_glob I hg hm ?_ hdb)
  refine PySem.W.callWith_K (h₀ := X.base) I.ok.mod.kin hk (thn (ha pos pins s σ H _ I h) fun us s1 ⟨vs, H1, I1, r, q⟩ => ⟨I1.kIn, ?_⟩) he hpl
  exact run_fnR F hr hb hx I1 r q
theorem run_makeR {pins : List (Addr × Obj)} {σ : St} {H : Hp} {s : Shared} {Q : VK} {us : List Value} {vs : List V} (M : Mk X.K C f) (F : FnOk X.prog X.w X.K X.mg X.base (CXR X.prog X.w) k f fd ps sp) (hr : Room (k + 1) X.A) (hb : Binds X.K fd ps [])
    (hx : Lets X W) (I : Inv X pins σ H s) (r : Vals vs us)
    (h : ∀ x dx, H x = none → H dx = none → dx ≠ x → sp (.ref x :: vs) (upd (upd H dx (.own x)) x (.ins C dx [])) (fun v H2 => v = .non ∧ Q (.ref x) H2) (W σ)) :
    wpAny (model X.prog X.w) X.A (call (.ref C) us) (EP X pins σ Q) X.xe s := by
  have hq := h (s.heap.objs.size + 1) s.heap.objs.size (I.hok.fresh (Nat.le_succ _)) (I.hok.fresh (Nat.le_refl _)) (Nat.ne_of_lt (Nat.lt_succ_self _))
  have I2 := Inv.made (C := C) I
  have r2 : Vals (V.ref (s.heap.objs.size + 1) :: vs) (Value.ref (s.heap.objs.size + 1) :: us) := .cons rfl r
  have hl : (Value.ref (s.heap.objs.size + 1) :: us).length = ps.length := by
    have e := r2.length
    rw [F.len _ _ _ _ hq] at e
    exact e.symm
  have hb' := hb _ (Value.ref (s.heap.objs.size + 1) :: us) I2.kIn (by rw [List.append_nil]; exact hl)
  rw [List.append_nil] at hb'
  refine wpAny_call (make_map (f := f) I.kIn M.makes M.init (beq_iff_eq.mp M.fn) (codeAny_mono (F.run _ X.stack _ _ ⟨Value.ref (s.heap.objs.size + 1) :: us, []⟩ (Value.ref (s.heap.objs.size + 1) :: us) _ _ (W σ) (hr.make C us [])
    (I2.env0.make C us []) hb' r2 hq) fun r s' hq' => ?_))
  cases r with
  | error e => exact hx.pass I2 hq'
  | ok fl =>
    cases fl with
    | ret u =>
      obtain ⟨v, H', I3, rv, ev, q3⟩ := I2.after hq'
      subst ev
      exact ⟨rv, ⟨V.ref (s.heap.objs.size + 1), H', I3, rfl, q3⟩⟩
    | next => exact False.elim hq'
    | brk => exact False.elim hq'
    | cont => exact False.elim hq'
theorem pe_makeR (M : Mk X.K C f) (F : FnOk X.prog X.w X.K X.mg X.base (CXR X.prog X.w) k f fd ps sp) (hr : Room (k + 1) X.A) (hg : Gl X x) (hm : X.mg x = some (.ref C)) (hb : Binds X.K fd ps []) (hx : Lets X W)
    (ha : PA X (e :: es) t) (hdb : (x == ("__debug__" : Str)) = false := by decide) (he : starEach (e :: es) X.env = (false, eval e X.env) :: starEach es X.env := by rfl) (hpl : (backTo pos (starEach es X.env)).any (·.1) = false := by rfl) :
    PE X (.Call (.Name x p) (e :: es) [] pos) (tMakeR C sp W t) := by
  intro pins s σ H Q I h
  refine wpAny_Call_Name_kw (ld_glob I hg hm ?_ hdb)
  refine PySem.W.callWith_K (h₀ := X.base) I.ok.mod.kin M.kp (thn (ha pos pins s σ H _ I h) fun us s1 ⟨vs, H1, I1, r, q⟩ => ⟨I1.kIn, ?_⟩) he hpl
  exact run_makeR M F hr hb hx I1 r q
end

noncomputable def mroV : List Value := [.type "ValueError", .type "Exception", .type "BaseException", .type "object"]
noncomputable def XCls (K : PySem.W.Frag) (C : Addr) : Prop := PySem.W.excIn K C mroV "ValueError.__new__" = true
theorem XCls.obj {K : PySem.W.Frag} {C : Addr} {h : Heap} (q : XCls K C) (X : K.In h) : ∃ bm N nm q bs hdct sn sub ab col dd k0 k1 k2 k3 k5 mN, h.get? C = some (excClassObj nm q C N bs bm hdct sn sub ab col dd k0 k1 k2 k3 k5 "ValueError.__new__") ∧
    h.Ns N mN ∧ mN "__init__" = none ∧ OwnTail h mroV bm := by
  have q : PySem.W.excIn K C mroV "ValueError.__new__" = true := q
  unfold PySem.W.excIn at q
  split at q
  · rename_i dd cd sl ho
    split at q
    · rename_i C' bm k0 k1 k2 k3 n k5 hm hs
      simp only [Bool.and_eq_true, beq_iff_eq, Bool.not_eq_true'] at q
      obtain ⟨⟨⟨⟨⟨rfl, rfl⟩, hdel⟩, ht⟩, hok⟩, hni⟩ := q
      obtain ⟨nm, bs, mro, ns, qn, hd, sn, sub, ab, col, del⟩ := cd
      dsimp only at hm hdel hok hni
      subst hm hdel
      have hsl : sl = #[k0, k1, k2, k3, some (.builtin "ValueError.__new__"), k5] := by
        obtain ⟨l⟩ := sl
        simp only at hs
        rw [hs]
      subst hsl
      exact ⟨bm, ns, nm, qn, bs, hd, sn, sub, ab, col, dd, k0, k1, k2, k3, k5, _, X _ _ ho, .of_isNs (PySem.W.isNs_of_in X hok), PySem.W.nsMap_none_of_in X hok hni, PySem.W.tail_of_in X ht⟩
    · cases q
  · cases q
noncomputable def tRaise (W : St → XK) (C : Addr) (t : TA) : TS := fun _ σ H => t σ H fun vs H1 => vs.length ≤ sizeLine ∧ ∀ a, H1 a = none → W σ (.ref C) none (upd H1 a (exO a (.ref C) none))
theorem ps_raise {X : Cx} {W : St → XK} {x : Str} {C : Addr} {np cpos pos : Pos} {e : Expr} {es : List Expr} {t : TA} (hx : Lets X W) (hc : X.calm = true) (hm : X.mg x = some (.ref C)) (q : XCls X.K C) (ha : PA X (e :: es) t) (hg : Gl X x := by rfl)
    (hdb : (x == ("__debug__" : Str)) = false := by decide) (he : starEach (e :: es) X.env = (false, eval e X.env) :: starEach es X.env := by rfl) (hpl : (backTo cpos (starEach es X.env)).any (·.1) = false := by rfl) :
    PS X (.Raise (some (.Call (.Name x np) (e :: es) [] cpos)) none pos) (tRaise W C t) := by
  intro pins s σ H D I h
  obtain ⟨bm0, N0, nm0, qn0, bs0, hdct0, sn0, sub0, ab0, col0, dd0, k00, k10, k20, k30, k50, mN0, hC0, hN0, hni0, T0⟩ := q.obj I.ok.mod.kin
  refine wpAny_Raise_call_subT (C := C) (nm := nm0) (q := qn0) (N := N0) (bs := bs0) (bm := bm0) (hdct := hdct0) (sn := sn0) (sub := sub0) (ab := ab0) (col := col0) (dd := dd0) (k0 := k00) (k1 := k10) (k2 := k20) (k3 := k30) (k5 := k50)
    PySem.F.excBase_ValueError (mN := mN0) (T0.hasType (by decide)) (I.ok.hd hc) (by rw [he]; show (false || (backTo cpos (starEach es X.env)).any (·.1)) = false; rw [hpl]; rfl) hni0 (ld_glob I hg hm ⟨rfl, ?_⟩ hdb)
  have h2 := ha cpos pins s σ H _ I h
  rw [he] at h2 ⊢
  refine Calls.evalArgs_plain (wpAny_mono h2 (fun us s2 ⟨vs, H1, I1, r, z, q1⟩ => ⟨rfl, ?_, I1.bk _ _ hC0, hN0.keeps I1.bk, T0.keeps I1.bk, fun h' a mk => ?_⟩) fun _ _ y => y)
  · show us.length ≤ sizeLine
    rw [← r.length]; exact z
  · have hn : H1 a = none := I1.hok.new mk.new
    obtain ⟨t0, e1, _, _⟩ := mk.there
    have J : Inv X pins σ (upd H1 a (exO a (.ref C) none)) { s2 with heap := h' } := I1.un (t' := s2.toks) (Un.laidN mk.keeps mk.new hn) (I1.hok.laidN mk.keeps mk.new (exO_ok e1 rfl rfl rfl (by show 1 < 6; decide)))
    exact hx _ _ ⟨σ, _, _, a, .ref C, none, rfl, J.pins_of (fun p z => absurd z (by simp)), upd_same, Xt.refl _, .inl ⟨_, _, e1, rfl, rfl⟩, q1 a hn⟩
end L2

set_option Elab.async false
set_option linter.all false
set_option maxRecDepth 100000
set_option maxHeartbeats 2000000
namespace L2
open PySem PySem.Spec PyProof.Rows
structure XAt (K : PySem.W.Frag) (C : Addr) : Prop where
  ga : PySem.W.findIn K (.ref C) "__getattribute__" = some (some (.builtin "BaseException.__getattribute__"))
  gx : PySem.W.findIn K (.ref C) "__getattr__" = some none
  cl : PySem.W.findIn K (.ref C) "__class__" = some (some (.builtin "object.__class__"))
  mo : PySem.W.mroIn K C (.type "object") = some true
  mb : PySem.W.mroIn K C (.type "BaseException") = some true
  is : PySem.W.isClsIn K C = true
section
variable {prog : Program} {w : World} {A : Around} {E : Value → Shared → Prop} {h : Heap} {g : Array GenState} {d : Drawn} {t : Nat} {os : OsState} {a C : Addr} {ox : Obj} {od : Option Obj} {K : PySem.W.Frag}
theorem xc_entry {tk : Tok} {Q : Fin → Shared → Prop} (X : K.In h) (I : PySem.W.InstAt h a ox C od) (x : XAt K C) (hq : Q (.done (.ret (.ref C))) ⟨h, g, d, t, os⟩) :
    wpAny (model prog w) A (Builtin.«object.__getattribute__» ⟨[.ref a, .str "__class__" tk], []⟩) Q E ⟨h, g, d, t, os⟩ := by
  have hT5 : (⟨h, g, d, t, os⟩ : Shared).TypeIs (.builtin "object.__class__") "getset_descriptor" := F.typeOf_object_class
  have f5 := F.typeOf_object_class
  have f6 := F.slot_gs_get.lookup
  have f7 := F.slot_gs_set.lookup
  have L0 := I.type (M := model prog w)
  have L1 := PySem.W.looks_findIn (M := model prog w) X x.cl
  repeat (any_goals (first | assumption | (with_reducible refine wpAny_loadPart_at I.at_ ?_; rw [I.cls]) | with_reducible refine L0.at ?_ | with_reducible refine L1.at ?_ | wp_step))
  refine PySem.W.class_get (s := ⟨h, g, d, t, os⟩) X I x.mo ?_
  repeat (any_goals (first | assumption | wp_step))
theorem xc_check {M : Model} {nameV : Value} {Q : Unit → Shared → Prop} (X : K.In h) (I : PySem.W.InstAt h a ox C od) (x : XAt K C) (hq : Q () ⟨h, g, d, t, os⟩) : wpAny M A (checkBuiltinCall "BaseException.__getattribute__" ⟨[.ref a, nameV], []⟩) Q E ⟨h, g, d, t, os⟩ := by
  have hk : builtinKind "BaseException.__getattribute__" = some .slot := by decide +kernel
  have hsplit : splitId "BaseException.__getattribute__" = some ("BaseException", "__getattribute__") := by decide +kernel
  have ha := F.args_bexc_ga (.ref a) nameV
  have L0 : PySem.W.Looks M h (isInstance (.ref a) (.type "BaseException")) true := (I.type (M := M)).andThen (PySem.W.looks_mroIn X x.mb)
  simp only [checkBuiltinCall, hk, hsplit]
  refine wpAny_bind (L0.at ?_)
  repeat (any_goals (first | assumption | wp_step))
theorem xc_by {tk : Tok} {fill expr : Bool} {Q : Value → Shared → Prop} (X : K.In h) (I : PySem.W.InstAt h a ox C od) (x : XAt K C) (hq : Q (.ref C) ⟨h, g, d, t, os⟩) :
    wpAny (model prog w) A (getAttrBy (.ref a) (.str "__class__" tk) fill expr) Q E ⟨h, g, d, t, os⟩ := by
  have FB := F.excAttr_ValueError
  have f3 := FB.ga.bind (.ref a)
  have hx0 : (expr && onTheHeap (Value.builtin "BaseException.__getattribute__")) = false := by cases expr <;> rfl
  have hx2 : (Value.builtin "BaseException.__getattribute__" == Value.builtin "object.__getattribute__") = false := by decide +kernel
  have hx1 : (onTheHeap (Value.ref C) && Value.builtin "BaseException.__getattribute__" == Value.builtin "object.__getattribute__") = false := by rw [hx2]; rfl
  have L0 := I.type (M := model prog w)
  have L1 := PySem.W.looks_findIn (M := model prog w) X x.ga
  have L2 := PySem.W.looks_findIn (M := model prog w) X x.gx
  repeat (any_goals (first | assumption | (with_reducible refine wpAny_loadPart_at I.at_ ?_; rw [I.cls]) | with_reducible refine L0.at ?_ | with_reducible refine L1.at ?_ | with_reducible refine L2.at ?_ | wp_step))
  refine codeAny_call_builtin FB.ga.plain F.entry_bexc_ga (xc_check X I x (xc_entry X I x ?_))
  repeat (any_goals (first | assumption | wp_step))
theorem xc_attr {Q : Option Value → Shared → Prop} (X : K.In h) (I : PySem.W.InstAt h a ox C od) (x : XAt K C) (hq : Q (some (.ref C)) ⟨h, g, d, t + 1, os⟩) :
    wpAny (model prog w) A (getAttr? (.ref a) "__class__") Q E ⟨h, g, d, t, os⟩ := by
  unfold getAttr? getAttrBy?
  refine wpAny_bind (wpAny_mkText ?_)
  refine wpAny_bind (wpAny_attempt (xc_by X I x ?_))
  repeat (any_goals (first | assumption | wp_step))
theorem kitx_exc (x : XAt K C) : PySem.W.KitX K (.ref a) (.ref C) (fun h => ∃ ox od, PySem.W.InstAt h a ox C od) where
  ty := fun _ _ _ ⟨_, _, I⟩ => I.type
  it := fun _ _ X _ => by
    obtain ⟨cdD, hcD⟩ := Option.isSome_iff_exists.mp x.is
    unfold PySem.W.clsIn at hcD
    split at hcD
    · rename_i c' d' cd' sl' ho
      intro A' Q' E' s' k q
      unfold isType loadHead
      exact wpAny_bind (wpAny_loadPart (k _ _ (X _ _ ho)) (wpAny_pure q))
    · cases hcD
  ne := fun h tp dd its n sl X htp => by
    obtain ⟨cdD, hcD⟩ := Option.isSome_iff_exists.mp x.is
    refine Bool.eq_false_iff.mpr fun q => ?_
    have e : C = tp := Value.ref.inj (beq_iff_eq.mp q)
    subst e
    unfold PySem.W.clsIn at hcD
    split at hcD
    · rename_i c' d' cd' sl' ho
      have z := (X _ _ ho).symm.trans htp
      cases z
    · cases hcD
  ca := fun {_ _ _ _ _ s} X ⟨_, _, I⟩ k => by obtain ⟨h, g, d, t, os⟩ := s; exact xc_attr X I x k
end
end L2

set_option Elab.async false
set_option linter.all false
set_option maxRecDepth 100000
set_option maxHeartbeats 2000000
namespace L2
open PySem PySem.Spec PyProof.Rows
section
variable {X : Cx} {e : Expr} {es : List Expr} {te : TE} {t : TJ} {pos p2 : Pos}
end

inductive TyX (K : PySem.W.Frag) (H : Hp) : V → Value → Prop where
  | of {x : V} {t : Value} (h : TyOf K H x t) : TyX K H x t
  | exc {a C : Addr} (e : H a = some (exO a (.ref C) none)) (x : XAt K C) : TyX K H (.ref a) (.ref C)
  | excD {a C dx : Addr} {fs : List (Str × V)} (e : H a = some (exO a (.ref C) (some dx))) (d : H dx = some (.xd fs)) (x : XAt K C) : TyX K H (.ref a) (.ref C)
theorem notCls_fields {o : Obj} {vs : Array Value} (h : o.data = .fields vs) : PySem.W.notCls o = true := by
  obtain ⟨c, d, dt, sl⟩ := o; subst h; rfl
section
variable {X : Cx} {pins : List (Addr × Obj)} {σ : St} {H : Hp} {s : Shared} {A : Around} {E : Value → Shared → Prop} {Q : Value → Shared → Prop} {c : Value} {b : Bool}
theorem isinstX_ok {x : V} {u t : Value} (I : Inv X pins σ H s) (rx : RelV x u) (ty : TyX X.K H x t) (e : PySem.W.kitOne X.K t c = some b) (h : ∀ tk, Q (.bool b) { s with toks := tk }) :
    wpAny (model X.prog X.w) A (call (.builtin "isinstance") [u, c]) Q E s := by
  cases ty with
  | of h' => exact isinst_ok I rx h' e h
  | @exc a C ea xa =>
    cases (show u = Value.ref a from rx)
    obtain ⟨oe, vs, he, hc, hdc, hd, _⟩ := exO_get I.hok ea
    refine PySem.W.kia_one (kitx_exc xa) I.kIn ⟨oe, none, he, hc, notCls_fields hd, ?_⟩ e (fun z => nomatch z) h
    rw [hdc]; trivial
  | @excD a C dx fs ea d xa =>
    cases (show u = Value.ref a from rx)
    obtain ⟨oe, vs, he, hc, hdc, hd, _⟩ := exO_get I.hok ea
    obtain ⟨ob, hob⟩ := (I.hok dx _ d).there
    refine PySem.W.kia_one (kitx_exc xa) I.kIn ⟨oe, some ob, he, hc, notCls_fields hd, ?_⟩ e (fun z => nomatch z) h
    rw [hdc]; exact hob
end
noncomputable def clsV : V → Option Value
  | .ty n => some (.type n)
  | .ref C => some (.ref C)
  | _ => none
theorem call_isinstX {X : Cx} : CallR X (.builtin "isinstance") (fun xs H Q => ∃ x y c t b, xs = [x, y] ∧ clsV y = some c ∧ TyX X.K H x t ∧ PySem.W.kitOne X.K t c = some b ∧ Q (.bl b) H) := by
  intro pins s σ H xs us Q I r h
  obtain ⟨x, y, c, t, b, e, ey, ty, k, q⟩ := h
  subst e
  obtain ⟨u, v, e2, rx, rc⟩ := vals2 r
  subst e2
  have hv : v = c := by
    cases y with
    | ty n => cases ey; exact rc
    | ref C => cases ey; exact rc
    | _ => cases ey
  subst hv
  exact isinstX_ok I rx ty k fun tk => ⟨.bl b, H, I.tok _, rfl, q⟩
end L2

set_option Elab.async false
set_option linter.all false
set_option maxRecDepth 100000
set_option maxHeartbeats 2000000
namespace L2
open PySem PySem.Spec PyProof.Rows
noncomputable abbrev Cx.tr (X : Cx) (p0 : List (Addr × Obj)) (E : Value → Shared → Prop) : Cx := { X with pn := X.pn ++ p0, xe := E }
noncomputable abbrev Cx.hand (X : Cx) (v : Value) : Cx := { X with A := X.A.mark (some v), calm := false, xe := fun _ _ => False }
section
variable {X : Cx} {pins p0 : List (Addr × Obj)} {σ : St} {H : Hp} {s : Shared} {E : Value → Shared → Prop} {v : Value}
theorem Cx.Ok.tr (ok : X.Ok) : (X.tr p0 E).Ok := ⟨ok.mod, ok.kind, ok.glob, ok.blt, ok.above, ok.inj, ok.has, ok.cab, ok.hd, ok.frames, ok.stk, ok.exf, ok.bs, ok.bsz, ok.noex, ok.exfs, ok.funs, ok.frf⟩
theorem Cx.Ok.untr (ok : (X.tr p0 E).Ok) : X.Ok := ⟨ok.mod, ok.kind, ok.glob, ok.blt, ok.above, ok.inj, ok.has, ok.cab, ok.hd, ok.frames, ok.stk, ok.exf, ok.bs, ok.bsz, ok.noex, ok.exfs, ok.funs, ok.frf⟩
theorem Cx.Ok.hand (ok : X.Ok) : (X.hand v).Ok := ⟨ok.mod, ok.kind, ok.glob, ok.blt, ok.above, ok.inj, ok.has, ok.cab, (fun z => nomatch z), ok.frames, ok.stk, ok.exf, ok.bs, ok.bsz, ok.noex, ok.exfs, ok.funs, ok.frf⟩
theorem Inv.tr (I : Inv X p0 σ H s) : Inv (X.tr p0 E) [] σ H s := ⟨I.ok.tr, I.os, I.bare, I.base, I.loc, I.cell, I.free, I.freeC, fun p hp => I.pin p (by simpa using hp), I.hok, I.len⟩
theorem Inv.untr (I : Inv (X.tr p0 E) pins σ H s) : Inv X p0 σ H s := ⟨I.ok.untr, I.os, I.bare, I.base, I.loc, I.cell, I.free, I.freeC, fun p hp => I.pin p (List.mem_append_left _ hp), I.hok, I.len⟩
theorem Inv.hand (I : Inv X pins σ H s) : Inv (X.hand v) pins σ H s := ⟨I.ok.hand, I.os, I.bare, I.base, I.loc, I.cell, I.free, I.freeC, I.pin, I.hok, I.len⟩
theorem Inv.unhand (ok : X.Ok) (I : Inv (X.hand v) pins σ H s) : Inv X pins σ H s := ⟨ok, I.os, I.bare, I.base, I.loc, I.cell, I.free, I.freeC, I.pin, I.hok, I.len⟩
theorem SP.untr {D : Ends} {f : Flow} (h : SP (X.tr p0 E) pins D f s) : SP X p0 D f s := by
  cases f with
  | next => obtain ⟨σ', H', I, q⟩ := h; exact ⟨σ', H', I.untr, q⟩
  | brk => obtain ⟨σ', H', I, q⟩ := h; exact ⟨σ', H', I.untr, q⟩
  | cont => obtain ⟨σ', H', I, q⟩ := h; exact ⟨σ', H', I.untr, q⟩
  | ret u => obtain ⟨v, σ', H', I, r, q⟩ := h; exact ⟨v, σ', H', I.untr, r, q⟩
theorem Inv.goes {h' : Heap} {i : Nat} {n : Str} {m : Str → Option Value} {o : Option Value} {tk : Nat} (I : Inv X pins σ H s) (hN : X.N.Nodup) (hi : X.N[i]? = some n) (hk : X.env.scope.names.lookup n = some .local) (hm : s.heap.Ns X.env.locals m)
    (hl : ∀ (j : Nat) (x : Str) (v : V), X.N[j]? = some x → σ[j]? = some (some v) → Vis X.env.scope x → ∃ u, RelV v u ∧ Look X.env s.heap m x u)
    (hn : h'.Ns X.env.locals (fun x => if x = n then o else m x)) (hs : Heap.SameBut X.env.locals s.heap h') : Inv X pins (σ.set i none) H { s with heap := h', toks := tk } := by
  obtain ⟨oL, _, _, hoL, _⟩ := id hm
  have cne := I.cne
  refine ⟨I.ok, I.os, I.bare, ⟨fun b o e n hb hx => ?_, fun b o e n hb hx => ?_, I.base.free, fun b o e hx => ?_, I.base.tups, I.base.frzs, I.base.tbls⟩, ⟨_, hn, fun j y v' e1 e2 e3 => ?_⟩, fun y c e => ?_, I.free, I.freeC, fun p hp => ?_, fun b ob e => ?_, by simpa using I.len⟩
  · exact (hs.2 b (Nat.ne_of_lt (Nat.lt_of_lt_of_le (Heap.lt_size e) I.ok.above))).trans (I.base.keep b o e n hb hx)
  · obtain ⟨sl, e1⟩ := I.base.slot b o e n hb hx
    exact ⟨sl, (hs.2 b (Nat.ne_of_lt (Nat.lt_of_lt_of_le (Heap.lt_size e) I.ok.above))).trans e1⟩
  · obtain ⟨o', e1⟩ := I.base.there b o e hx
    exact ⟨o', (hs.2 b (Nat.ne_of_lt (Nat.lt_of_lt_of_le (Heap.lt_size e) I.ok.above))).trans e1⟩
  · by_cases hj : j = i
    · subst hj
      rw [List.getElem?_set] at e2
      simp at e2
    · rw [List.getElem?_set_ne (Ne.symm hj)] at e2
      obtain ⟨u', r', q⟩ := hl j y v' e1 e2 e3
      refine ⟨u', r', ?_⟩
      rcases q with ⟨k, e⟩ | ⟨k, c, e, z⟩
      · refine .inl ⟨k, ?_⟩
        have : y ≠ n := fun e => hj (nodup_ix hN e1 (e ▸ hi))
        simp [this, e]
      · exact .inr ⟨k, c, e, z.sameBut hs (cne y c e)⟩
  · obtain ⟨w', z⟩ := I.cell y c e
    exact ⟨w', z.sameBut hs (cne y c e)⟩
  · obtain ⟨e, n, ne, nf, d⟩ := I.pin p hp
    exact ⟨(hs.2 p.1 ne).trans e, n, ne, nf, d⟩
  · refine (I.hok b ob e).stay (fun c w' hc q => (hs.2 c ?_).trans q) (fun _ q => q) fun _ _ q => q
    rintro rfl
    rcases hc with z | hc
    · rw [← z, I.free] at e; cases e
    · rw [I.free] at hc; cases hc
end

structure XRoot (K : PySem.W.Frag) (R : Addr) : Prop where
  tup : PySem.W.instIn K (.ref R) (.type "tuple") = some false
  mb : PySem.W.subIn K (.ref R) (.type "BaseException") = some true
  is : PySem.W.isClsIn K R = true
theorem match_ok {M : Model} {A : Around} {E : Value → Shared → Prop} {K : PySem.W.Frag} {s : Shared} {a C R : Addr} {oe : Obj} {Q : Bool → Shared → Prop} (X : K.In s.heap) (r : XRoot K R) (he : s.heap.get? a = some oe) (hcls : oe.cls = .ref C)
    (sub : PySem.W.subIn K (.ref C) (.ref R) = some true) (hq : Q true s) : wpAny M A (excMatches (.ref a) (.ref R)) Q E s := by
  obtain ⟨h, g, d, t, os⟩ := s
  have L1 := PySem.W.looks_instIn (M := M) X r.tup
  have L2 := PySem.W.looks_subIn (M := M) X sub
  have L3 := PySem.W.looks_subIn (M := M) X r.mb
  obtain ⟨cdD, hcD⟩ := Option.isSome_iff_exists.mp r.is
  unfold PySem.W.clsIn at hcD
  split at hcD
  · rename_i c' d' cd' sl' ho
    have hR := X _ _ ho
    unfold excMatches
    repeat (first | with_reducible refine L1.at ?_ | with_reducible refine L2.at ?_ | with_reducible refine L3.at ?_ | (with_reducible refine wpAny_loadPart_at he ?_; rw [hcls]) | with_reducible refine wpAny_loadPart_at hR ?_ | wp_step)
    exact hq
  · cases hcD

noncomputable def Ends.hnd (D : Ends) (i : Nat) : Ends := { nx := fun σ H => D.nx (σ.set i none) H, rt := D.rt, bk := fun σ H => D.bk (σ.set i none) H, ct := fun σ H => D.ct (σ.set i none) H }
section
variable {X : Cx} {x n : Str} {R : Addr} {i : Nat} {np hpos pos : Pos} {b₀ : Stmt} {suite : List Stmt} {th : TS}
theorem hand_ok {p0 : List (Addr × Obj)} {σ : St} {H : Hp} {s : Shared} {D : Ends} {a C : Addr} {od : Option Addr} (hN : X.N.Nodup) (hi : X.N[i]? = some n) (hln : X.env.scope.names.lookup n = some .local) (hg : Gl X x) (hm : X.mg x = some (.ref R)) (hR : XRoot X.K R)
    (hh : ∀ v, PSs (X.hand v) (b₀ :: suite) th) (I : Inv X p0 σ H s) (ea : H a = some (exO a (.ref C) od)) (tb : Tb s.heap H a .none) (sub : PySem.W.subIn X.K (.ref C) (.ref R) = some true) (q : th (D.hnd i) (σ.set i (some (.ref a))) H)
    (hdb : (x == ("__debug__" : Str)) = false := by decide) :
    wpAny (model X.prog X.w) X.A (handleBy (.ref a) X.env [.ExceptHandler (some (.Name x np)) (some n) (b₀ :: suite) hpos]) (SP X p0 D) X.xe s := by
  refine wpAny_handleBy_cons (codeAny_handlers_test (ld_glob (X := X.hand (.ref a)) (I.hand (v := .ref a)) hg hm ?_ hdb)) (by intro z; cases z)
  obtain ⟨oe, vs, he, hc, _, _, _⟩ := exO_get I.hok ea
  refine match_ok (K := X.K) I.kIn hR he hc sub ?_
  show codeAny _ _ _ _ _
  refine codeAny_handlers_suite_as (inv_flight (X := X.hand (.ref a)) (I.hand (v := .ref a)) tb fun s1 I1 tb1 => ?_)
  refine store_ok (X := X.hand (.ref a)) I1 hN hi (.inl hln) (v := .ref a) rfl (fun s2 I2 => ?_) (.inr hln)
  refine wpAny_mono (hh (.ref a) p0 s2 _ H _ I2 q) (fun f s3 z => ?_) fun _ _ z => False.elim z
  have fin : ∀ {σ' : St} {H' : Hp} {Q : Unit → Shared → Prop}, Inv (X.hand (.ref a)) p0 σ' H' s3 → (∀ s4, Inv X p0 (σ'.set i none) H' s4 → Q () s4) → wpAny (model X.prog X.w) X.A (do bindName X.env n .none; unbindBehindTheSuite X.env n hpos) Q X.xe s3 := by
    intro σ' H' Q J k
    obtain ⟨m, hn, hl⟩ := id J.loc
    have hcls : (X.env.scope.kind == .class || (X.env.scope.kind == .module && X.env.locals != X.env.globals)) = false := by rw [I.ok.kind]; rfl
    exact wpAny_nameGoes_keeps hln hn hcls fun h' v hn' hs => k _ ((J.unhand I.ok).goes hN hi hln hn hl hn' hs)
  cases f with
  | next => obtain ⟨σ', H', J, q⟩ := z; exact fin J fun s4 J4 => ⟨_, H', J4, q⟩
  | brk => obtain ⟨σ', H', J, q⟩ := z; exact fin J fun s4 J4 => ⟨_, H', J4, q⟩
  | cont => obtain ⟨σ', H', J, q⟩ := z; exact fin J fun s4 J4 => ⟨_, H', J4, q⟩
  | ret u => obtain ⟨v, σ', H', J, r, q⟩ := z; exact fin J fun s4 J4 => ⟨v, _, H', J4, r, q⟩
noncomputable def tTry (K : PySem.W.Frag) (R : Addr) (W : St → XK) (i : Nat) (tb th : TS) : TS := fun D σ H => tb D σ H ∧
  ∀ σ' a c od H1 H', W σ' c od H1 → H1 a = some (exO a c od) → Xt H1 H' → (∃ C, c = .ref C ∧ PySem.W.subIn K (.ref C) (.ref R) = some true) ∧ th (D.hnd i) (σ'.set i (some (.ref a))) H'
theorem ps_try {W : St → XK} {body : List Stmt} {tb : TS} (hst : X.stack = X.env :: X.outer) (hN : X.N.Nodup) (hi : X.N[i]? = some n) (hln : X.env.scope.names.lookup n = some .local) (hg : Gl X x) (hm : X.mg x = some (.ref R)) (hR : XRoot X.K R)
    (hb : ∀ p0 xe, Lets (X.tr p0 xe) W → PassesOwn (model X.prog X.w) X.A X.env xe → PSs (X.tr p0 xe) body tb) (hh : ∀ v, PSs (X.hand v) (b₀ :: suite) th) (hdb : (x == ("__debug__" : Str)) = false := by decide) :
    PS X (.Try body [.ExceptHandler (some (.Name x np)) (some n) (b₀ :: suite) hpos] [] [] pos) (tTry X.K R W i tb th) := by
  intro p0 s σ H D I h
  refine wpAny_Try_except ?_
  refine wpAny_mono (hb p0 (fun e s₁ => wpAny (model X.prog X.w) X.A (noteFrame e X.env) (fun _ s₂ => wpAny (model X.prog X.w) X.A (setFlight e none) (fun _ s₃ => wpAny (model X.prog X.w) X.A (handleBy e X.env [.ExceptHandler (some (.Name x np)) (some n) (b₀ :: suite) hpos]) (SP X p0 D) X.xe s₃) X.xe s₂) X.xe s₁)
    ?_ PassesOwn.looking [] s σ H D I.tr h.1) (fun f s1 z => ?_) fun e s1 z => z
  · rintro e s' ⟨σ', H₁, H2, a, c, od, rfl, I', ha, xt, fl, q⟩
    obtain ⟨⟨C, rfl, sub⟩, q'⟩ := h.2 σ' a c od H₁ H2 q ha xt
    refine inv_note hst I'.untr (xt.same _ _ ha) fl fun s2 H3 I2 e2 tb2 x2 => ?_
    refine inv_flight I2 tb2 fun s3 I3 tb3 => ?_
    exact hand_ok hN hi hln hg hm hR hh I3 e2 tb3 sub (h.2 σ' a _ od H₁ H3 q ha (xt.trans x2)).2 hdb
  · have z := z.untr
    cases f with
    | next => exact wpAny_execs_nil z
    | brk => exact z
    | cont => exact z
    | ret u => exact z
end
end L2

set_option Elab.async false
set_option linter.all false
set_option maxRecDepth 100000
set_option maxHeartbeats 2000000
namespace L2
open PySem PySem.Spec PyProof.Rows
structure DfR (P : Program) (w : World) (K : PySem.W.Frag) (mg : Str → Option Value) (base : Heap) (k : Nat) (x : Str) (ps : List Str) (sp : Sp) : Prop where
  ex : ∃ (f : Addr) (fd : FuncData), mg x = some (.ref f) ∧ PySem.W.keepIn K (.ref f) = true ∧ Binds K fd ps [] ∧ FnOk P w K mg base (CXR P w) k f fd ps sp
structure CfR (P : Program) (w : World) (K : PySem.W.Frag) (mg : Str → Option Value) (base : Heap) (k : Nat) (C : Addr) (x : Str) (ps : List Str) (sp : Sp) : Prop where
  ex : ∃ (f : Addr) (fd : FuncData), mg x = some (.ref C) ∧ Mk K C f ∧ Binds K fd ps [] ∧ FnOk P w K mg base (CXR P w) k f fd ps sp
section
variable {X : Cx} {k : Nat} {C : Addr} {x m : Str} {ps : List Str} {sp : Sp} {W : St → XK} {o e : Expr} {es : List Expr} {ta : TE} {t : TA} {p apos pos : Pos}
theorem pe_dfR (D : DfR X.prog X.w X.K X.mg X.base k x ps sp) (l : Lets X W) (hr : Room k X.A) (ha : PA X (e :: es) t)
    (hg : Gl X x := by rfl) (hdb : (x == ("__debug__" : Str)) = false := by decide) (he : starEach (e :: es) X.env = (false, eval e X.env) :: starEach es X.env := by rfl) (hpl : (backTo pos (starEach es X.env)).any (·.1) = false := by rfl) :
    PE X (.Call (.Name x p) (e :: es) [] pos) (tCallR sp W t) := by
  obtain ⟨f, fd, h1, h2, h3, h4⟩ := D.ex
  exact pe_callR h4 hr hg h1 h2 h3 l ha hdb he hpl
theorem pe_cfR (D : CfR X.prog X.w X.K X.mg X.base k C x ps sp) (l : Lets X W) (hr : Room (k + 1) X.A) (ha : PA X (e :: es) t)
    (hg : Gl X x := by rfl) (hdb : (x == ("__debug__" : Str)) = false := by decide) (he : starEach (e :: es) X.env = (false, eval e X.env) :: starEach es X.env := by rfl) (hpl : (backTo pos (starEach es X.env)).any (·.1) = false := by rfl) :
    PE X (.Call (.Name x p) (e :: es) [] pos) (tMakeR C sp W t) := by
  obtain ⟨f, fd, h1, h2, h3, h4⟩ := D.ex
  exact pe_makeR h2 h4 hr hg h1 h3 l ha hdb he hpl
end

noncomputable abbrev TM := St → Hp → (Hp → Prop) → Prop
noncomputable def PM (X : Cx) (es : List Expr) (t : TM) : Prop := ∀ (out : Str) (c : Nat) (pins : List (Addr × Obj)) (s : Shared) (σ : St) (H : Hp) (Q : VK), out.length ≤ c → c + 2000 * es.length ≤ sizeLine → Inv X pins σ H s → (t σ H fun H1 => ∀ x, Q (.str x) H1) →
  wpAny (model X.prog X.w) X.A (joinParts out (evalEach es X.env)) (EP X pins σ Q) X.xe s
noncomputable def tMNil : TM := fun _ H k => k H
noncomputable def tMVal (te : TE) (t : TM) : TM := fun σ H k => te σ H fun v H1 => ((∃ i, v = .int i ∧ i.natAbs.log2 < 1920) ∨ (∃ x, v = .str x ∧ x.length ≤ 2000)) ∧ t σ H1 k
section
variable {X : Cx} {e : Expr} {es : List Expr} {te : TE} {t : TM} {pos p2 : Pos}
theorem pm_nil : PM X [] tMNil := fun out c pins s σ H Q z1 z2 I h => joinParts_nil ⟨.str out, H, I.tok _, ⟨_, rfl⟩, h out⟩ (by simp at z2; lia)
theorem pm_str {x : Str} {j} (ht : PM X es t) (hx : x.length ≤ 2000 := by decide +kernel) : PM X (.Constant (.str x) j pos :: es) t := fun out c pins s σ H Q z1 z2 I h => by
  show wpAny _ _ (joinParts out (eval (.Constant (.str x) j pos) X.env :: evalEach es X.env)) _ _ s
  rw [List.length_cons] at z2
  have e : (out ++ x).length ≤ c + 2000 := by rw [strLen_append]; lia
  exact joinParts_cons (Calls.Constant_str ⟨by lia, ht _ (c + 2000) pins _ σ H Q e (by lia) (I.tok _) h⟩)
theorem pm_val (he : PE X e te) (ht : PM X es t) : PM X (.FormattedValue e (-1) none pos :: es) (tMVal te t) := fun out c pins s σ H Q z1 z2 I h => by
  show wpAny _ _ (joinParts out (eval (.FormattedValue e (-1) none pos) X.env :: evalEach es X.env)) _ _ s
  rw [List.length_cons] at z2
  refine joinParts_cons (FormattedValue_plain (thn (he pins s σ H _ I h) fun u s1 ⟨v, H1, I1, r, q0, q⟩ => ?_))
  rcases q0 with ⟨i, rfl, hd⟩ | ⟨x, rfl, z⟩
  · obtain ⟨tk, rfl⟩ := r
    have e : (out ++ Str.ofString (toString i)).length ≤ c + 2000 := by
      rw [strLen_append, PySem.ofString_length]
      have := int_text_length_le (k := 1920) (by decide) hd
      lia
    exact formatField_int_small hd ⟨by lia, ht _ (c + 2000) pins _ σ H1 Q e (by lia) (I1.tok _) q⟩
  · obtain ⟨tk, rfl⟩ := r
    have e : (out ++ x).length ≤ c + 2000 := by rw [strLen_append]; lia
    exact formatField_str (fun t' tk' => ⟨by lia, ht _ (c + 2000) pins _ σ H1 Q e (by lia) (I1.tok _) q⟩) (by lia)
noncomputable def tMsg (t : TM) : TE := fun σ H Q => t σ H fun H1 => ∀ x, Q (.str x) H1
theorem pe_msg {v₁ v₂ : Expr} (ht : PM X (v₁ :: v₂ :: es) t) (hz : 0 + 2000 * (v₁ :: v₂ :: es).length ≤ sizeLine := by simp [sizeLine]) : PE X (.JoinedStr (v₁ :: v₂ :: es) pos) (tMsg t) := fun pins s σ H Q I h =>
  JoinedStr_many (ht _ 0 pins s σ H Q (by decide) hz I h)
end
theorem log_small {i : Int} (h1 : -(2 ^ 64) < i) (h2 : i < 2 ^ 64) : i.natAbs.log2 < 1920 := by
  by_cases e : i.natAbs = 0
  · rw [e]; decide
  · refine (Nat.log2_lt e).mpr ?_
    have : i.natAbs < 2 ^ 64 := by lia
    exact Nat.lt_of_lt_of_le this (Nat.pow_le_pow_right (by decide) (by decide))

section
variable {X : Cx} {α : Type} {M : Hp → V → α → Prop} {d : Nat} [DecidableEq α]
theorem idx_of (E : EqOk X d M) {pins : List (Addr × Obj)} {σ : St} {H : Hp} {s : Shared} (I : Inv X pins σ H s) {a : α} {xs : List V} {us : List Value} {as : List α} (r : Vals xs us) (m : Paired (M H) xs as) {j : Nat} {b : α} (hj : as[j]? = some b) : ∃ u, us[j]? = some u ∧ meanIs M H a u = decide (b = a) := by
  obtain ⟨x, hx, mx⟩ := Paired.getR m hj
  obtain ⟨u, hu, ru⟩ := r.get hx
  exact ⟨u, hu, meanIs_of E I ru mx⟩
inductive rIndexMP (K : PySem.W.Frag) (M : Hp → V → α → Prop) (x : V) (vs : List V) (H : Hp) (Q : VK) : Prop
  | mk (y : _) (a : _) (as : _) (j : _) (h_0 : vs = [y]) (h_1 : M H y a) (h_2 : MLst K M H x as) (h_3 : as[j]? = some a) (h_4 : (∀ i, i < j → as[i]? ≠ some a)) (h_5 : Q (.int (j : Nat)) H)
noncomputable def rIndexM (K : PySem.W.Frag) (M : Hp → V → α → Prop) : V → List V → Hp → VK → Prop := fun x vs H Q => rIndexMP K M x vs H Q
theorem mt_index (E : EqOk X d M) (hu : X.A.units + (d + 1) < cLine) : MtM X "list.index" (rIndexM X.K M) := by
  intro pins s σ H x vs v us Q I rx rv h
  obtain ⟨y, a, as, j, e0, my, ⟨p, xs, e1, h1, m1⟩, hj, hno, hq⟩ := h
  subst e0; subst e1
  cases rx
  obtain ⟨u, e2, ry⟩ := rv.one
  subst e2
  obtain ⟨ws, r1, ⟨o, n, ho, hc, hdd, hd⟩, hz⟩ := I.list h1
  obtain ⟨cls, dct, data, sl⟩ := o
  simp only at hc hd hdd
  subst hc hd hdd
  have l1 := r1.length
  have l2 := Paired.length m1
  have hjl : j < as.length := (List.getElem?_eq_some_iff.mp hj).1
  have hjw : j < ws.toArray.size := by simp; lia
  have hsm : (j : Int) < 2 ^ 63 - 1 := by
    have e : sizeLine = 16777216 := by decide
    rw [e] at hz
    lia
  refine call_meets F.slot_list_index ⟨_, ho, rfl⟩ F.entry_list_index (F.args_list_index_2 _ _) (SeqAt.list_indexAt p ws.toArray n none sl u (meanIs M H a) j hjw hsm ?_ ?_) ⟨ho, fun y hy => ?_, ?_⟩
  · obtain ⟨w', hw, e⟩ := idx_of E I (a := a) r1 m1 hj
    have : ws.toArray[j] = w' := by
      obtain ⟨_, q⟩ := List.getElem?_eq_some_iff.mp hw
      simpa using q
    rw [this, e]
    exact decide_eq_true rfl
  · intro i hi hij
    have hil : i < as.length := by lia
    obtain ⟨w', hw, e⟩ := idx_of E I (a := a) r1 m1 (List.getElem?_eq_getElem hil)
    have : ws.toArray[i] = w' := by
      obtain ⟨_, q⟩ := List.getElem?_eq_some_iff.mp hw
      simpa using q
    rw [this, e]
    exact decide_eq_false fun z => hno i hij (by rw [List.getElem?_eq_getElem hil, z])
  · exact meanIs_at E I (by show _ + _ < cLine; first | (show X.A.units + 1 + d < cLine; lia) | (show X.A.units + 1 + 1 + d < cLine; lia)) ry my r1 m1 y (by simpa using hy)
  · exact ⟨.int (j : Nat), H, I.tok _, ⟨s.toks, rfl⟩, hq⟩
end
noncomputable def MBo (_ : Hp) (x : V) (a : Bool) : Prop := x = .bl a
theorem EqOk.bool {X : Cx} : EqOk X 0 MBo where
  eq := fun pins σ H s A x y a b u v I hu hx hy rx ry => by
    subst hx; subst hy
    cases (show u = Value.bool a from rx)
    cases (show v = Value.bool b from ry)
    have e : decide (a = b) = (a == b) := by cases a <;> cases b <;> rfl
    rw [e]
    exact SeqAt.EqAt.bool_bool a b
  fn := fun pins σ H s x a b I h1 h2 => by rw [show x = .bl a from h1] at h2; cases h2; rfl
theorem bt_ValueError : bootBuiltins "ValueError" = some (.type "ValueError") := by decide +kernel
end L2

set_option Elab.async false
set_option linter.all false
set_option maxRecDepth 100000
set_option maxHeartbeats 4000000
namespace Cw
open PySem L2
end Cw

set_option Elab.async false
set_option linter.all false
set_option maxRecDepth 100000
set_option maxHeartbeats 4000000
namespace L2
open PySem PySem.Spec PyProof.Rows
theorem bools_of {bs : List Bool} : ∀ {its : List Value}, Vals (bs.map V.bl) its → its = bs.map Value.bool := by
  induction bs with
  | nil => intro its h; cases h; rfl
  | cons b bs ih =>
    intro its h
    rw [List.map_cons] at h
    cases h with
    | cons r t => rw [show _ = Value.bool b from r, ih t]; rfl
theorem truth_bools {prog : Program} {w : World} {A : Around} (bs : List Bool) : TruthOf prog w A (fun i v => (bs.map Value.bool).toArray[i]? = some v) (fun i => (bs[i]?).getD false) := by
  intro i v s Q E hP hQ
  have e : (bs.map Value.bool)[i]? = some v := by simpa using hP
  rw [List.getElem?_map] at e
  cases h : bs[i]? with
  | none => rw [h] at e; cases e
  | some b =>
    rw [h] at e
    have hQ : Q ((bs[i]?).getD false) s := hQ
    rw [h] at hQ
    cases e
    exact wpAny_truthy_bool hQ
theorem range_all (bs : List Bool) : (List.range bs.length).all (fun i => (bs[i]?).getD false) = bs.all id := by
  induction bs with
  | nil => rfl
  | cons b bs ih =>
    rw [List.length_cons, List.range_succ_eq_map, List.all_cons, List.all_map, List.all_cons]
    rw [← ih]
    rfl
inductive rAllP (K : PySem.W.Frag) (xs : List V) (H : Hp) (Q : VK) : Prop
  | mk (p : Addr) (bs : List Bool) (h_0 : xs = [.ref p]) (h_1 : SqL K H p (bs.map V.bl)) (h_2 : Q (.bl (bs.all id)) H)
noncomputable def rAll (K : PySem.W.Frag) : List V → Hp → VK → Prop := fun xs H Q => rAllP K xs H Q
theorem call_all {X : Cx} (hc : X.calm = true) : CallR X (.builtin "all") (rAll X.K) := by
  intro pins s σ H xs us Q I r h
  obtain ⟨p, bs, rfl, hq, q⟩ := h
  obtain ⟨u, rfl, ru⟩ := vals1 r
  cases ru
  obtain ⟨its, rv, pl, _⟩ := I.list hq
  have e := bools_of rv
  subst e
  have hl := pl.isList
  have hlt : p < s.heap.objs.size := by obtain ⟨_, e, _⟩ := hl; exact Heap.lt_size e
  refine call_all_walk (wpAny_pyIter_list hl ⟨_, _, _, _, _, _, _, rfl, Walks.list (A := X.A.in1) (I.ok.hd hc) _ p (Nat.ne_of_lt hlt) _, ⟨⟨_, Heap.get?_push_size _ rfl, rfl, rfl⟩, Heap.IsList.push hl _⟩, truth_bools bs, fun h' tk hk => ?_⟩)
  refine ⟨.bl (bs.all id), H, I.kept (t' := tk) (fun b o e => hk b o (fun hm => ?_) (Heap.get?_push_of_some _ e)), ?_, q⟩
  · have z : b = s.heap.objs.size := by simpa using hm
    exact absurd (z ▸ Heap.lt_size e) (Nat.lt_irrefl _)
  · show Value.bool _ = Value.bool _
    rw [← range_all bs]
    simp
theorem bt_all : bootBuiltins "all" = some (.builtin "all") := by decide +kernel
end L2

set_option Elab.async false
set_option linter.all false
set_option maxRecDepth 100000
set_option maxHeartbeats 4000000
namespace L2
theorem gset_nx {i : Nat} {v : V} {σ : St} {H : Hp} {a bk ct : St → Hp → Prop} {rt : VK} (h : a (σ.set i (some v)) H) : gName i v σ H (Ends.nx { nx := a, rt := rt, bk := bk, ct := ct }) := h
end L2
namespace Cw
open PySem L2
end Cw

set_option Elab.async false
set_option linter.all false
set_option maxRecDepth 100000
set_option maxHeartbeats 4000000
namespace L2
open PySem PySem.Spec PyProof.Rows PySem.W
section
variable {prog : Program} {w : World} {A : Around} {E : Value → Shared → Prop} {s : Shared}
end
end L2

set_option Elab.async false
set_option linter.all false
set_option maxRecDepth 100000
set_option maxHeartbeats 4000000
namespace L2
open PySem PySem.Spec PyProof.Rows PySem.W
section
variable {X : Cx} {tg : Expr}
end
end L2

set_option Elab.async false
set_option linter.all false
set_option maxRecDepth 100000
set_option maxHeartbeats 4000000
namespace L2
open PySem PySem.Spec PyProof.Rows
section
variable {prog : Program} {w : World} {A : Around} {E : Value → Shared → Prop} {s : Shared}
end
end L2

set_option Elab.async false
set_option linter.all false
set_option maxRecDepth 100000
set_option maxHeartbeats 4000000
namespace L2
open PySem PySem.Spec PyProof.Rows PySem.W
end L2

set_option Elab.async false
set_option linter.all false
set_option maxRecDepth 100000
set_option maxHeartbeats 4000000
namespace Cw
open PySem L2
end Cw

set_option Elab.async false
set_option linter.all false
namespace L2
open PySem
section
variable {X : Cx}
theorem call_list_ofI : CallR X (.type "list") (rListOf X.K) := fun pins s σ H xs us Q I r h => by
  obtain ⟨p, ys, a, b, c⟩ := h
  exact call_list_of pins s σ H xs us Q I r ⟨p, ys, a, b, c⟩
theorem call_len_seqI : CallR X (.builtin "len") (rLenS X.K) := fun pins s σ H xs us Q I r h => by
  obtain ⟨p, ys, a, b, c⟩ := h
  exact call_len_seq pins s σ H xs us Q I r ⟨p, ys, a, b, c⟩
end
end L2
namespace Cw
theorem len_1 {α : Type} {us : List α} (h : us.length = 1) : ∃ x0, us = [x0] := List.length_eq_one_iff.mp h
theorem len_2 {α : Type} {us : List α} (h : us.length = 2) : ∃ x0 x1, us = [x0, x1] := by
  cases us with
  | nil => cases h
  | cons a us =>
    obtain ⟨b0, rfl⟩ := len_1 (us := us) (Nat.succ.inj h)
    exact ⟨_, _, rfl⟩
theorem len_3 {α : Type} {us : List α} (h : us.length = 3) : ∃ x0 x1 x2, us = [x0, x1, x2] := by
  cases us with
  | nil => cases h
  | cons a us =>
    obtain ⟨b0, b1, rfl⟩ := len_2 (us := us) (Nat.succ.inj h)
    exact ⟨_, _, _, rfl⟩
theorem len_4 {α : Type} {us : List α} (h : us.length = 4) : ∃ x0 x1 x2 x3, us = [x0, x1, x2, x3] := by
  cases us with
  | nil => cases h
  | cons a us =>
    obtain ⟨b0, b1, b2, rfl⟩ := len_3 (us := us) (Nat.succ.inj h)
    exact ⟨_, _, _, _, rfl⟩
end Cw

set_option Elab.async false
set_option linter.all false
set_option maxRecDepth 100000
set_option maxHeartbeats 2000000
namespace L2
open PySem PySem.Spec PyProof.Rows
theorem rv_nolen : typeLookup (.type "list_reverseiterator") "__len__" = pure none := by rw [typeLookup_type, builtinLookup_eq_fast]; kernel_rfl
theorem rv_hint : typeLookup (.type "list_reverseiterator") "__length_hint__" = pure (some (.builtin "list_reverseiterator.__length_hint__")) := by rw [typeLookup_type, builtinLookup_eq_fast]; kernel_rfl
theorem rv_self : isSubtype (.type "list_reverseiterator") (.type "list_reverseiterator") = pure true := by rw [isSubtype_type]; kernel_rfl
section
variable {prog : Program} {w : World} {A : Around} {E : Value → Shared → Prop} {s : Shared}
theorem hint_rev {a : Addr} {Q : Bool → Shared → Prop} (hT : s.TypeIs (.ref a) "list_reverseiterator") (h : Q false s) : wpAny (model prog w) A (Builtin.List.listLengthHint (.ref a)) Q E s := by
  unfold Builtin.List.listLengthHint
  refine wpAny_bind (wpAny_specialOf hT rv_nolen ?_)
  dsimp only
  refine wpAny_ite_split (fun z => absurd z (by decide +kernel)) (fun _ => ?_)
  refine wpAny_ite_split (fun z => absurd z (by decide)) (fun _ => ?_)
  refine wpAny_bind (wpAny_specialOf hT rv_hint ?_)
  dsimp only
  rw [show splitId "list_reverseiterator.__length_hint__" = some ("list_reverseiterator", "__length_hint__") from by decide +kernel]
  dsimp only
  refine wpAny_bind (wpAny_isInstance hT rv_self ?_)
  refine wpAny_ite_split (fun z => absurd z (by decide)) (fun _ => ?_)
  refine wpAny_ite_split (fun _ => ?_) (fun z => absurd (by decide +kernel) z)
  refine wpAny_ite_split (fun z => absurd z (by decide +kernel)) (fun _ => ?_)
  exact wpAny_pure h
theorem extend_rev {R : Result → Shared → Prop} {a l : Addr} {items : Array Value} (hh : A.handled = none) (hit : s.heap.IsRevIter a l ((items.size : Int) - 1)) (hl : s.heap.IsList l items) (hne : l ≠ a) (hz : items.size ≤ sizeLine) (S : Addr) (res : Value) (c₀ : Nat)
    (hS : s.heap.get? S = some { cls := .type "list", data := .seq #[] c₀ }) (hSa : S ≠ a) (hSl : S ≠ l)
    (hR : ∀ h' tk acc' c', (∀ b o, b ≠ S → b ≠ a → s.heap.get? b = some o → h'.get? b = some o) → h'.get? S = some { cls := .type "list", dict := none, data := .seq acc' c', slots := #[] } →
      ItemsOf (fun i v => items[items.size - 1 - i]? = some v) acc' items.size → R (.ok (.ret res)) { s with heap := h', toks := tk }) :
    wpAny (model prog w) A.in1 (Builtin.List.listExtendWith (.ref S) (.ref a) res)
      (fun fin s' => match fin with | .done f => R (.ok f) s' | .again c' => c'.quiet = true ∧ codeAny (model prog w) A c' R s') (fun e s' => R (.error e) s') s := by
  have W := (Walks.listRev (prog := prog) (w := w) (A := A.in1) hh a l hne items).toS
  have hout : S ∉ [a, l] := fun hm => by
    rcases List.mem_cons.mp hm with e | hm
    · exact hSa e
    · exact hSl (List.mem_singleton.mp hm)
  unfold Builtin.List.listExtendWith
  refine wpAny_bind (wpAny_typeOf (T := "list_reverseiterator") hit.typeIs ?_)
  have t1 : Builtin.List.listSameRef (.ref S) (.ref a) = false := by simp [Builtin.List.listSameRef, hSa]
  have t2 : (Value.type "list_reverseiterator" == Value.type "list") = false := by decide
  have t3 : (Value.type "list_reverseiterator" == Value.type "tuple") = false := by decide
  simp only [t1, t2, t3, Bool.or_false, Bool.false_eq_true, if_false]
  refine wpAny_bind (wpAny_pyIter_revIter hit ?_)
  refine wpAny_bind (wpAny_holding (hint_rev hit.typeIs ?_))
  refine wpAny_ite_split (fun z => absurd z (by decide)) (fun _ => wpAny_pure ⟨plainId_quiet F.plain_extend_loop _, ?_⟩)
  refine codeAny_extend_loopS W hz S hout res items.size 0 _ #[] c₀ rfl (Nat.zero_le _) ⟨Nat.zero_le _, by simpa using hit, hl⟩ hS (ItemsOf.nil _) fun s' acc' c' hm hS' hacc => ?_
  rw [Moved.eq_with hm]
  refine hR s'.heap s'.toks acc' c' (fun b o hb hba e => hm.heap b o (fun hmem => ?_) e) hS' hacc
  rcases List.mem_cons.mp hmem with e' | hmem
  · exact hb e'
  · exact hba (List.mem_singleton.mp hmem)
theorem call_list_rev {a l : Addr} {items : Array Value} {Q : Value → Shared → Prop} (hh : A.handled = none) (hit : s.heap.IsRevIter a l ((items.size : Int) - 1)) (hl : s.heap.IsList l items) (hne : l ≠ a) (hz : items.size ≤ sizeLine)
    (hQ : ∀ h' tk acc' c', (∀ b o, b ≠ a → s.heap.get? b = some o → h'.get? b = some o) → h'.get? s.heap.objs.size = some { cls := .type "list", dict := none, data := .seq acc' c', slots := #[] } →
      ItemsOf (fun i v => items[items.size - 1 - i]? = some v) acc' items.size → Q (.ref s.heap.objs.size) { s with heap := h', toks := tk }) :
    wpAny (model prog w) A (call (.type "list") [.ref a]) Q E s := by
  obtain ⟨oa, ha, hac, had⟩ := id hit
  obtain ⟨ol, hol, holr⟩ := id hl
  refine callType_codes (Q₁ := fun obj s₁ => obj = .ref s.heap.objs.size ∧ s₁ = { s with heap := s.heap.push { cls := .type "list", data := .seq #[] } }) F.called_list (F.typeCall_list_1 _) F.entry_list_init
    (code_list_new _ ⟨rfl, rfl⟩) ?_
  rintro obj s₁ ⟨rfl, rfl⟩
  have kp : ∀ b o, s.heap.get? b = some o → (s.heap.push { cls := .type "list", data := .seq #[] }).get? b = some o := fun b o e => Heap.get?_push_of_some _ e
  have hS : (s.heap.push { cls := .type "list", data := .seq #[] }).get? s.heap.objs.size = some { cls := .type "list", data := .seq #[] } := Heap.get?_push_size _ rfl
  have nS : ∀ b o, s.heap.get? b = some o → b ≠ s.heap.objs.size := fun b o e => Nat.ne_of_lt (Heap.lt_size e)
  refine ⟨⟨_, hS, rfl⟩, F.args_list_init_2 _ _, ?_⟩
  show wpAny _ _ (do let old ← Builtin.List.listItems (.ref s.heap.objs.size); Builtin.List.listUpdate (.ref s.heap.objs.size) (fun _ => #[]); letGo old.toList.reverse; Builtin.List.listExtendWith (.ref s.heap.objs.size) (.ref a) .none) _ _ _
  refine wpAny_bind ?_
  unfold Builtin.List.listItems
  refine wpAny_bind (wpAny_seqItems hS rfl (wpAny_pure ?_))
  show wpAny _ _ (updateSeq s.heap.objs.size (fun _ => #[]) >>= fun _ => letGo (#[] : Array Value).toList.reverse >>= fun _ => Builtin.List.listExtendWith (.ref s.heap.objs.size) (.ref a) .none) _ _ _
  refine wpAny_bind (wpAny_updateSeq hS rfl ?_)
  have hS2 := Heap.get?_update_self (Obj.mapSeq (fun _ => (#[] : Array Value))) hS rfl
  have ot : ∀ b o, s.heap.get? b = some o → ((s.heap.push { cls := .type "list", data := .seq #[] }).update s.heap.objs.size (Obj.mapSeq (fun _ => (#[] : Array Value)))).get? b = some o :=
    fun b o e => (Heap.get?_update_other _ _ (nS b o e).symm).trans (kp b o e)
  refine wpAny_bind (wpAny_letGo ?_)
  refine extend_rev (A := A.in1) hh (hit.at fun o e => ot a o e) (hl.at fun o e => ot l o e) hne hz _ .none _ hS2 (nS a oa ha).symm (nS l ol hol).symm fun h' tk acc' c' hk hS' hacc => ?_
  exact ⟨rfl, hQ h' tk acc' c' (fun b o hb e => hk b o (nS b o e) hb (ot b o e)) hS' hacc⟩
end
end L2

set_option Elab.async false
set_option linter.all false
set_option maxRecDepth 100000
set_option maxHeartbeats 2000000
namespace L2
open PySem PySem.Spec PyProof.Rows
noncomputable def rvO (z0 : Nat) (a l : Addr) (n : Nat) : HO := .ext fun h => h.IsRevIter a l ((n : Int) - 1) ∧ z0 ≤ a
noncomputable def del (H : Hp) (a : Addr) : Hp := fun b => if b = a then none else H b
theorem del_ne {H : Hp} {a b : Addr} (h : b ≠ a) : del H a b = H b := by unfold del; rw [if_neg h]
theorem del_same {H : Hp} {a : Addr} : del H a a = none := by unfold del; rw [if_pos rfl]
section
variable {X : Cx}
theorem bt_reversed : bootBuiltins "reversed" = some (.type "reversed") := by decide +kernel
theorem call_reversed : CallR X (.type "reversed") (fun xs H Q => ∃ l ys, xs = [.ref l] ∧ SqL X.K H l ys ∧ ∀ a, H a = none → Q (.ref a) (upd H a (rvO X.s₀.heap.objs.size a l ys.length))) := by
  intro pins s σ H xs us Q I r h
  obtain ⟨l, ys, rfl, hq, q⟩ := h
  obtain ⟨u, rfl, ru⟩ := vals1 r
  cases ru
  obtain ⟨its, rv, pl, hz⟩ := I.list hq
  have hl := rv.length
  refine call_reversed_list pl.isList ?_
  refine ⟨.ref s.heap.objs.size, upd H s.heap.objs.size (rvO X.s₀.heap.objs.size s.heap.objs.size l ys.length), ?_, rfl, q _ (I.hok.fresh (Nat.le_refl _))⟩
  refine I.laid (t' := s.toks) (fun b u e => Heap.get?_push_of_some _ e) (Nat.le_refl _) ?_
  have e0 : (s.heap.push (revObj l (((its.toArray.size : Nat) : Int) - 1))).get? s.heap.objs.size = some (revObj l (((its.toArray.size : Nat) : Int) - 1)) := Heap.get?_push_size _ rfl
  have e1 : (s.heap.push (revObj l (((its.toArray.size : Nat) : Int) - 1))).IsRevIter s.heap.objs.size l ((ys.length : Int) - 1) := by
    refine ⟨_, e0, rfl, ?_⟩
    rw [hl]
    simp [revObj]
  exact ⟨⟨e1, I.sz⟩, ⟨_, e0⟩, fun h1 h2 z k => ⟨z.1.at fun o e => k o e, z.2⟩⟩
theorem rev_items {its : List Value} {acc : Array Value} (h : ItemsOf (fun i v => its.toArray[its.toArray.size - 1 - i]? = some v) acc its.toArray.size) : acc = its.reverse.toArray := by
  obtain ⟨h1, h2⟩ := h
  have hs : acc.size = its.length := h1.trans List.size_toArray
  apply Array.ext'
  rw [List.toList_toArray]
  refine List.ext_getElem? fun j => ?_
  by_cases hj : j < its.length
  · have hja : j < acc.size := by lia
    have ha : acc[j]? = some (acc[j]'hja) := Array.getElem?_eq_getElem hja
    have z : its.toArray[its.toArray.size - 1 - j]? = some (acc[j]'hja) := h2 j _ ha
    rw [List.getElem?_reverse hj, Array.getElem?_toList, ha]
    rw [List.size_toArray] at z
    simpa using z.symm
  · have e1 : acc.toList.length ≤ j := by rw [Array.length_toList]; lia
    have e2 : its.reverse.length ≤ j := by rw [List.length_reverse]; lia
    rw [List.getElem?_eq_none e1, List.getElem?_eq_none e2]
theorem call_listRev (hc : X.calm = true) : CallR X (.type "list") (fun xs H Q => ∃ a l ys, xs = [.ref a] ∧ H a = some (rvO X.s₀.heap.objs.size a l ys.length) ∧ SqL X.K H l ys ∧ ∀ r, H r = none → Q (.ref r) (upd (del H a) r (.lst ys.reverse))) := by
  intro pins s σ H xs us Q I r h
  obtain ⟨a, l, ys, rfl, ha, hq, q⟩ := h
  obtain ⟨u, rfl, ru⟩ := vals1 r
  cases ru
  obtain ⟨its, rv, pl, hz⟩ := I.list hq
  have hl := rv.length
  obtain ⟨hit, hsz⟩ : s.heap.IsRevIter a l ((ys.length : Int) - 1) ∧ X.s₀.heap.objs.size ≤ a := (I.hok a _ ha).1
  have hit' : s.heap.IsRevIter a l (((its.toArray.size : Nat) : Int) - 1) := by rw [List.size_toArray, ← hl]; exact hit
  have hL := pl.isList
  have hne : l ≠ a := by
    rintro rfl
    obtain ⟨o1, e1, c1, _⟩ := hL
    obtain ⟨o2, e2, c2, _⟩ := hit
    rw [e1] at e2; cases e2
    rw [c1] at c2
    exact absurd (Value.type.inj c2) (by decide)
  have hn : H s.heap.objs.size = none := I.hok.fresh (Nat.le_refl _)
  obtain ⟨oa, hoa, _⟩ := id hit
  have hsa : s.heap.objs.size ≠ a := Nat.ne_of_gt (Heap.lt_size hoa)
  have na : ∀ b, H b = none → b ≠ a := fun b z e => by rw [e, ha] at z; cases z
  have nr : ∀ b ob, s.heap.get? b = some ob → b ≠ s.heap.objs.size := fun b ob e => Nat.ne_of_lt (Heap.lt_size e)
  refine call_list_rev (I.ok.hd hc) hit' hL hne (by rw [List.size_toArray, ← hl]; exact hz) fun h' tk acc c' kp hS it => ?_
  rw [rev_items it] at hS
  refine ⟨.ref s.heap.objs.size, _, ?_, rfl, q _ hn⟩
  have tr : ∀ b u, H b = some u → b ≠ a → upd (del H a) s.heap.objs.size (.lst ys.reverse) b = some u := fun b u e z => by rw [upd_ne (ne_of_none e hn), del_ne z]; exact e
  refine I.step (h' := h') (g' := s.gens) (t' := tk) (d' := s.drawn) (ch := [a]) (fun b hb => ?_) (fun b ob _ _ hb e n => kp b ob (na b n) e) (fun b ob _ _ hb e n => ⟨ob.slots, kp b ob (na b n) e⟩) (fun b ob hb e n => ?_) (fun b ob hb e => ?_)
    (fun b zs e => ?_) (fun b ob zs e => ?_) (fun b ps e => ⟨#[], ?_⟩) (fun m hm => ?_) (fun b u e => ?_) I.bare
  · have e : b = a := by simpa using hb
    subst e
    refine ⟨.inr hsz, fun z => ?_, fun x c e z => ?_, fun p hp z => ?_⟩
    · have := I.free; rw [← z, ha] at this; cases this
    · have := I.freeC x c e; rw [z, ha] at this; cases this
    · have := (I.pin p hp).2.1; rw [z, ha] at this; cases this
  · rw [upd_ne (nr b ob e), del_ne (na b n)]; exact n
  · exact ⟨ob, kp b ob (fun z => hb (by simp [z])) e⟩
  · exact tr b _ e fun z => by rw [z, ha] at e; cases e
  · exact tr b _ e fun z => by rw [z, ha] at e; cases e
  · rw [tr b _ e fun z => by rw [z, ha] at e; cases e]; simp
  · obtain ⟨o', es, ep, ho', r'⟩ := hm
    refine ⟨o', es, ep, kp _ _ (fun z => ?_) ho', r'⟩
    have := I.free; rw [z, ha] at this; cases this
  · by_cases z : b = s.heap.objs.size
    · subst z
      rw [upd_same] at e; cases e
      exact ⟨by rw [List.length_reverse]; exact hz, its.reverse, c', rv.reverse, hS⟩
    · rw [upd_ne z] at e
      by_cases z2 : b = a
      · subst z2
        rw [del_same] at e; cases e
      · rw [del_ne z2] at e
        refine (I.hok b u e).stay (fun c v hc q => kp c v ?_ q) (fun c q => ?_) fun c zs q => ?_
        · rcases hc with rfl | hc
          · exact z2
          · rintro rfl
            rw [ha] at hc; cases hc
        · exact tr c _ q fun z => by rw [z, ha] at q; cases q
        · exact tr c _ q fun z => by rw [z, ha] at q; cases q
end
end L2

set_option Elab.async false
set_option linter.all false
set_option maxRecDepth 100000
set_option maxHeartbeats 4000000
namespace Cw
open PySem L2
end Cw

set_option Elab.async false
set_option linter.all false
set_option maxRecDepth 100000
set_option maxHeartbeats 4000000
namespace Cw
open PySem L2
theorem seq_asg1 {te : TE} {i : Nat} {D : Ends} {σ : St} {H : Hp} (h : te σ H fun x H1 => D.nx (σ.set i (some x)) H1) : tAsg te (gName i) D σ H := h
end Cw

set_option Elab.async false
set_option linter.all false
set_option maxRecDepth 100000
set_option maxHeartbeats 2000000
namespace L2
open PySem PySem.Spec PyProof.Rows PySem.Builtin.Str
theorem strs_of {ss : List Str} {its : List Value} (h : Vals (ss.map V.str) its) : ∃ l : List (Str × Tok), its = strValues l ∧ l.map (·.1) = ss := by
  induction ss generalizing its with
  | nil => cases h; exact ⟨[], rfl, rfl⟩
  | cons x ss ih =>
    rw [List.map_cons] at h
    cases h with
    | cons r t =>
      obtain ⟨tk, rfl⟩ := r
      obtain ⟨l, rfl, e⟩ := ih t
      exact ⟨(x, tk) :: l, rfl, by rw [List.map_cons, e]⟩
theorem vals_strs (l : List (Str × Tok)) : Vals ((l.map (·.1)).map V.str) (strValues l) := by
  induction l with
  | nil => exact .nil
  | cons p l ih => exact .cons ⟨p.2, rfl⟩ ih
section
variable {X : Cx}
inductive rSStartsP (x : V) (vs : List V) (H : Hp) (Q : VK) : Prop
  | mk (a b : Str) (h_0 : x = .str a) (h_1 : vs = [.str b]) (h_2 : Q (.bl (Txt.startswith a b)) H)
noncomputable def rSStarts : V → List V → Hp → VK → Prop := fun x vs H Q => rSStartsP x vs H Q
theorem mt_sstarts : MtM X "str.startswith" rSStarts := by
  intro pins s σ H x vs v us Q I rx rv h
  obtain ⟨a, b, rfl, rfl, q⟩ := h
  obtain ⟨t, rfl⟩ := rx
  obtain ⟨u, rfl, ru⟩ := rv.one
  obtain ⟨t2, rfl⟩ := ru
  exact PySem.SC.startswith ⟨.bl _, H, I, rfl, q⟩
inductive rSJoinP (K : PySem.W.Frag) (x : V) (vs : List V) (H : Hp) (Q : VK) : Prop
  | mk (a : Str) (p : Addr) (ss : List Str) (h_0 : x = .str a) (h_1 : vs = [.ref p]) (h_2 : SqL K H p (ss.map V.str)) (h_3 : JoinOk a ss = true) (h_4 : Q (.str (Txt.join a ss)) H)
noncomputable def rSJoin (K : PySem.W.Frag) : V → List V → Hp → VK → Prop := fun x vs H Q => rSJoinP K x vs H Q
theorem mt_sjoin : MtM X "str.join" (rSJoin X.K) := by
  intro pins s σ H x vs v us Q I rx rv h
  obtain ⟨a, p, ss, rfl, rfl, hl, hok, q⟩ := h
  obtain ⟨t, rfl⟩ := rx
  obtain ⟨u, rfl, ru⟩ := rv.one
  cases ru
  obtain ⟨its, r, pl, _⟩ := I.list hl
  obtain ⟨l, rfl, e⟩ := strs_of r
  exact PySem.SC.join pl.isList e hok fun t' k => ⟨.str _, H, I.tok _, ⟨_, rfl⟩, q⟩
inductive rSSplitP (x : V) (vs : List V) (H : Hp) (Q : VK) : Prop
  | mk (a b : Str) (ss : List Str) (h_0 : x = .str a) (h_1 : vs = [.str b]) (h_2 : (b.length == 0) = false) (h_3 : a.length ≤ sizeLine) (h_4 : Txt.split a b = ss) (h_5 : ss.length ≤ sizeLine) (h_6 : ∀ l, H l = none → Q (.ref l) (upd H l (.lst (ss.map V.str))))
noncomputable def rSSplit : V → List V → Hp → VK → Prop := fun x vs H Q => rSSplitP x vs H Q
theorem split_new {pins : List (Addr × Obj)} {σ : St} {H : Hp} {s : Shared} {Q : VK} {l : List (Str × Tok)} {tk : Tok} (I : Inv X pins σ H s) (hz : l.length ≤ sizeLine) (q : ∀ b, H b = none → Q (.ref b) (upd H b (.lst ((l.map (·.1)).map V.str)))) :
    EP X pins σ Q (.ref s.heap.objs.size) { s with heap := s.heap.push { cls := .type "list", data := .seq (strValues l).toArray }, toks := tk } := by
  refine ⟨.ref s.heap.objs.size, upd H s.heap.objs.size (.lst ((l.map (·.1)).map V.str)), I.laid (t' := tk) (fun b u e => Heap.get?_push_of_some _ e) (Nat.le_refl _) ?_, rfl, q _ (I.hok.fresh (Nat.le_refl _))⟩
  exact ⟨by rw [List.length_map, List.length_map]; exact hz, strValues l, 0, vals_strs l, Heap.get?_push_size _ rfl⟩
theorem mt_ssplit : MtM X "str.split" rSSplit := by
  intro pins s σ H x vs v us Q I rx rv h
  obtain ⟨a, b, ss, rfl, rfl, hb, hz, hs, hzs, q⟩ := h
  obtain ⟨t, rfl⟩ := rx
  obtain ⟨u, rfl, ru⟩ := rv.one
  obtain ⟨t2, rfl⟩ := ru
  subst hs
  cases h1 : (decide (a.length < b.length) || decide (strKind a < strKind b))
  · cases hf : (occurrences a b 0 a.length (a.length + 1)).isEmpty
    · have e : Txt.split a b = partsBetween a (occurrences a b 0 a.length (a.length + 1)) b.length := (if_neg (ne_true_of_eq_false h1)).trans (if_neg (ne_true_of_eq_false hf))
      rw [e] at q hzs
      refine call_meets F.slot_str_split (typeIs_str _ _ _) F.entry_str_split (F.args_str_split_2 _ _) (meets_str_split_sep a b t t2 h1 hb hf hz hzs) ?_
      show EP X pins σ Q _ { s with toks := _, heap := s.heap.push { cls := .type "list", data := .seq (strsFrom s.toks (partsBetween a (occurrences a b 0 a.length (a.length + 1)) b.length)).toArray } }
      rw [strsFrom_eq]
      refine split_new I ?_ (by rw [numbered_texts]; exact q)
      have := congrArg List.length (numbered_texts s.toks (partsBetween a (occurrences a b 0 a.length (a.length + 1)) b.length))
      rw [List.length_map] at this
      rw [this]; exact hzs
    · have e : Txt.split a b = [a] := (if_neg (ne_true_of_eq_false h1)).trans (if_pos hf)
      rw [e] at q hzs
      exact call_meets F.slot_str_split (typeIs_str _ _ _) F.entry_str_split (F.args_str_split_2 _ _) (meets_str_split_not_found a b t t2 h1 hb hf) (split_new (l := [(a, t)]) I hzs q)
  · have e : Txt.split a b = [a] := if_pos h1
    rw [e] at q hzs
    exact call_meets F.slot_str_split (typeIs_str _ _ _) F.entry_str_split (F.args_str_split_2 _ _) (meets_str_split_cannot_occur a b t t2 h1) (split_new (l := [(a, t)]) I hzs q)
inductive rSPartP (x : V) (vs : List V) (H : Hp) (Q : VK) : Prop
  | mk (a b : Str) (p : Str × Str × Str) (h_0 : x = .str a) (h_1 : vs = [.str b]) (h_2 : (b.length == 0) = false) (h_3 : a.length ≤ sizeLine) (h_4 : Txt.partition a b = p) (h_5 : ∀ l, H l = none → Q (.ref l) (upd H l (.tup [.str p.1, .str p.2.1, .str p.2.2])))
noncomputable def rSPart : V → List V → Hp → VK → Prop := fun x vs H Q => rSPartP x vs H Q
theorem part_new {pins : List (Addr × Obj)} {σ : St} {H : Hp} {s : Shared} {Q : VK} {a b c : Str} {ta tb tc tk : Tok} (I : Inv X pins σ H s) (q : ∀ l, H l = none → Q (.ref l) (upd H l (.tup [.str a, .str b, .str c]))) :
    EP X pins σ Q (.ref s.heap.objs.size) { s with heap := s.heap.push { cls := .type "tuple", data := .seq [.str a ta, .str b tb, .str c tc].toArray }, toks := tk } := by
  refine ⟨.ref s.heap.objs.size, upd H s.heap.objs.size (.tup [.str a, .str b, .str c]), I.laid (t' := tk) (fun b u e => Heap.get?_push_of_some _ e) (Nat.le_refl _) ?_, rfl, q _ (I.hok.fresh (Nat.le_refl _))⟩
  exact ⟨by show 3 ≤ sizeLine; decide, _, .cons ⟨_, rfl⟩ (.cons ⟨_, rfl⟩ (.cons ⟨_, rfl⟩ .nil)), ⟨_, Heap.get?_push_size _ rfl, rfl, _, rfl⟩⟩
theorem mt_spart : MtM X "str.partition" rSPart := by
  intro pins s σ H x vs v us Q I rx rv h
  obtain ⟨a, b, p, rfl, rfl, hb, hz, hs, q⟩ := h
  obtain ⟨t, rfl⟩ := rx
  obtain ⟨u, rfl, ru⟩ := rv.one
  obtain ⟨t2, rfl⟩ := ru
  refine call_meets F.slot_str_partition (typeIs_str _ _ _) F.entry_str_partition (F.args_str_partition_2 _ _) (meets_str_partition a b t t2 hb hz) ?_
  subst hs
  unfold Txt.partition at q
  revert q
  cases occurrences a b 0 a.length 1 with
  | nil => intro q; exact part_new I q
  | cons i r => intro q; exact part_new I q
noncomputable def Its (x : Str) : It := ⟨fun i _ => i < x.cps.size, fun i H v H' => H' = H ∧ ∃ c, x.cps[i]? = some c ∧ v = .str ⟨#[c]⟩, fun i _ => x.cps.size ≤ i⟩
theorem turn_str {P : Program} {w : World} {K : PySem.W.Frag} {tg : Expr} {x : Str} {t : Tok} {n : String} (it : Addr) (hn : n = "str_ascii_iterator" ∨ n = "str_iterator") : Turn P w K tg (Its x) [it] it (fun i h => h.IsStrIter it n x t i) where
  mem := by simp
  obj := fun i h st b hb => by
    have e : b = it := by simpa using hb
    subst e
    obtain ⟨o, e, c, d⟩ := st
    exact ⟨o, e, fun v z => by rw [d] at z; cases z⟩
  keep := fun i h h' st k => by
    obtain ⟨o, e, r⟩ := st
    exact ⟨o, k it (by simp) o e, r⟩
  item := by
    intro X hP hw hK hc i pins s σ H E I hf st hg
    subst hP hw hK
    obtain ⟨f0, f1, f2, f3, f4, f5⟩ := hf it (by simp)
    have W : Walks X.prog X.w X.A it [it] [it] x.cps.size (SignAt x) (fun i h => h.IsStrIter it n x t i) := by
      rcases hn with rfl | rfl
      · exact Walks.strAscii (I.ok.hd hc) it x t
      · exact Walks.strWide (I.ok.hd hc) it x t
    refine W.item i s _ _ hg st fun v h' tk hv st' kk => ?_
    obtain ⟨c, t2, hc2, rfl⟩ := hv
    have I1 : Inv X pins σ H { s with heap := h', toks := tk } := I.turned (fun b o hb e => kk b o (by simpa using hb) e) f0 f1 f3 f4 f5
    obtain ⟨o, ho, oc, od⟩ := id st'
    refine ⟨_, rfl, go_of (s := { s with heap := h', toks := tk }) (n := n) ho oc od (by rcases hn with rfl | rfl <;> decide) ⟨.str ⟨#[c]⟩, H, I1, ⟨t2, rfl⟩, ⟨rfl, c, hc2, rfl⟩, st', fun b hb => (hf b hb).1⟩⟩
  done := by
    intro X hP hw hK hc i pins s σ H E I hf st hg
    subst hP hw hK
    obtain ⟨f0, f1, f2, f3, f4, f5⟩ := hf it (by simp)
    rcases hn with rfl | rfl
    · exact wpAny_pyNext_ascii_end (I.ok.hd hc) st (Array.getElem?_eq_none hg) fun h' eb => ⟨rfl, I.turned (t' := s.toks) (fun b o hb e => eb b o hb e) f0 f1 f3 f4 f5⟩
    · exact wpAny_pyNext_wide_end (I.ok.hd hc) st (Array.getElem?_eq_none hg) fun h' eb => ⟨rfl, I.turned (t' := s.toks) (fun b o hb e => eb b o hb e) f0 f1 f3 f4 f5⟩
  self := fun _ _ _ _ _ st h => by
    rcases hn with rfl | rfl
    · exact wpAny_pyIter_striter_ascii st h
    · exact wpAny_pyIter_striter_wide st h
inductive IStrP (v : V) (H1 : Hp) (R : It → Hp → Prop) : Prop
  | mk (x : Str) (h0 : v = .str x) (q : R (Its x) H1)
noncomputable def iStr (tl : TE) : TI := fun σ H R => tl σ H fun v H1 => IStrP v H1 R
theorem pi_str {tg l : Expr} {tl : TE} (hl : PE X l tl) : PI X tg l (iStr tl) := by
  intro pins s σ H R I h
  refine thn (hl pins s σ H _ I h) fun v s1 z_ => ?_
  obtain ⟨x, H1, I1, r1, q1⟩ := z_
  obtain ⟨y, e, q⟩ := q1
  subst e
  obtain ⟨t, rfl⟩ := r1
  have fin : ∀ (n : String) (o : Obj), (n = "str_ascii_iterator" ∨ n = "str_iterator") → (s1.heap.push o).IsStrIter s1.heap.objs.size n y t 0 → PIE X pins σ tg R (.ref s1.heap.objs.size) { s1 with heap := s1.heap.push o } := by
    intro n o hn st
    refine ⟨s1.heap.objs.size, [s1.heap.objs.size], _, _, H1, rfl, I1.kept (t' := s1.toks) fun b o e => Heap.get?_push_of_some _ e, turn_str (x := y) (t := t) (n := n) _ hn, st, fun b hb => ?_, q⟩
    have e : b = s1.heap.objs.size := by simpa using hb
    subst e
    exact I1.fpOk (Nat.le_refl _) (I1.hok.fresh (Nat.le_refl _))
  cases ha : y.cps.all (· < 128)
  · exact wpAny_pyIter_wide ha (fin _ _ (.inr rfl) ⟨_, Heap.get?_push_size _ rfl, rfl, rfl⟩)
  · exact wpAny_pyIter_ascii ha (fin _ _ (.inl rfl) ⟨_, Heap.get?_push_size _ rfl, rfl, rfl⟩)
theorem lc_str {x : Str} {g : TG} {tt : TT} {te : TE} {σ0 : St} {H : Hp} {D : Addr} {Qd : Hp → Prop} (Pv : Nat → St → List V → Hp → Prop) (h0 : Pv 0 σ0 [] (upd H D (.lst [])))
    (hs : ∀ i c σ ys H2, x.cps[i]? = some c → Pv i σ ys H2 → g (.str ⟨#[c]⟩) σ H2 fun σ4 H4 => tt σ4 H4 fun b H5 =>
      if b = true then te σ4 H5 fun y H6 => H6 D = some (.lst ys) ∧ ys.length < sizeLine ∧ Pv (i + 1) σ4 (ys ++ [y]) (upd H6 D (.lst (ys ++ [y])))
      else Pv (i + 1) σ4 ys H5)
    (hd : ∀ σ ys H, Pv x.cps.size σ ys H → Qd H) :
    ∃ W : Nat → Nat → St → List V → Hp → Prop, (∃ m, W 0 m σ0 [] (upd H D (.lst []))) ∧ ∀ i m σ' ys H2, W i m σ' ys H2 →
    ((Its x).stop i H2 ∧ Qd H2) ∨ ((Its x).go i H2 ∧ ∃ N : St → List V → Hp → Prop, (∀ σ ys H, N σ ys H → ∃ m', m' < m ∧ W (i + 1) m' σ ys H) ∧ ∀ v H3, (Its x).yld i H2 v H3 → g v σ' H3 fun σ4 H4 => tt σ4 H4 fun b H5 =>
      if b = true then te σ4 H5 fun y H6 => H6 D = some (.lst ys) ∧ ys.length < sizeLine ∧ N σ4 (ys ++ [y]) (upd H6 D (.lst (ys ++ [y])))
      else N σ4 ys H5) := by
  refine ⟨fun i m σ ys H => m = x.cps.size - i ∧ i ≤ x.cps.size ∧ Pv i σ ys H, ⟨x.cps.size, by simp, Nat.zero_le _, h0⟩, ?_⟩
  rintro i m σ ys H2 ⟨rfl, hi, p⟩
  by_cases hlt : i < x.cps.size
  · refine .inr ⟨hlt, Pv (i + 1), fun σ' ys' H' p' => ⟨x.cps.size - (i + 1), by lia, rfl, hlt, p'⟩, fun v H3 y => ?_⟩
    obtain ⟨e, c, hc, y⟩ := y
    subst e y
    exact hs i c σ ys _ hc p
  · have e : i = x.cps.size := by lia
    subst e
    exact .inl ⟨Nat.le_refl _, hd σ ys H2 p⟩
noncomputable def dropS (x : Str) (k : Nat) : Str := ⟨(x.cps.toList.drop k).toArray⟩
inductive rSlSP (x : V) (lo hi : Option Int) (H : Hp) (Q : VK) : Prop
  | mk (a : Str) (k : Nat) (h_0 : x = .str a) (h_1 : lo = some ((k : Nat) : Int)) (h_2 : hi = none) (h_3 : k ≤ a.length) (h_4 : a.length ≤ sizeLine) (h_5 : Q (.str (dropS a k)) H)
noncomputable def rSlS : V → Option Int → Option Int → Hp → VK → Prop := fun x lo hi H Q => rSlSP x lo hi H Q
theorem dropS_len (x : Str) (k : Nat) : (dropS x k).length = x.length - k := by
  show (x.cps.toList.drop k).toArray.size = x.cps.size - k
  simp
theorem sl_str : SlR X rSlS := by
  intro pins s σ H x v vl vu lo hi sl Q I rx hs pl pu h
  obtain ⟨a, k, rfl, rfl, rfl, hk, hz, q⟩ := h
  obtain ⟨t, rfl⟩ := rx
  cases pl with
  | int i t2 =>
  cases pu
  refine ⟨"str", _, F.slot_str_getitem.lookup, typeIs_str _ _ _, ?_⟩
  refine wpAny_getItem_str_slice (l := some (((k : Nat) : Int), t2)) (u := none) (st := none) hs rfl ?_
  have e0 : slicePicked a (some (((k : Nat) : Int), t2)) none none = strSliceIndices (some ((k : Nat) : Int)) (some ((a.length : Nat) : Int)) 1 a.length := by
    show strSliceIndices (some ((k : Nat) : Int)) none 1 a.length = _
    have h2 : ¬ (((a.length : Nat) : Int) < 0) := by lia
    have e2 : max (0 : Int) (min ((a.length : Nat) : Int) ((a.length : Nat) : Int)) = ((a.length : Nat) : Int) := by lia
    simp only [strSliceIndices, h2, if_false, e2, show ((1 : Int) > 0) = True from by simp, if_true]
  have e1 := StrLaws.sliced_plain a (a := k) (b := a.length) hk (Nat.le_refl _)
  rw [List.take_of_length_le (by rw [List.length_drop]; exact Nat.le_refl _)] at e1
  unfold sliceMade
  rw [e0, StrLaws.strSliceIndices_plain hk (Nat.le_refl _)] 
  rw [StrLaws.strSliceIndices_plain hk (Nat.le_refl _)] at e1
  rw [e1]
  have q' : ∀ tk t', EP X pins σ Q (.str (dropS a k) t') { s with toks := tk } := fun tk t' => ⟨.str (dropS a k), H, I.tok _, ⟨_, rfl⟩, q⟩
  split
  · rename_i hc
    have hk0 : k = 0 := by
      have := (Bool.and_eq_true _ _ ▸ hc).2
      simp at this
      lia
    subst hk0
    have ea : dropS a 0 = a := by
      unfold dropS
      rw [List.drop_zero, Array.toArray_toList]
    rw [ea] at q'
    exact q' s.toks t
  · refine ⟨?_, q' _ _⟩
    have := dropS_len a k
    show (dropS a k).length ≤ sizeLine
    lia
end
end L2

set_option Elab.async false
set_option linter.all false
set_option maxRecDepth 100000
set_option maxHeartbeats 2000000
namespace L2
open PySem PySem.Spec PyProof.Rows PySem.Builtin
noncomputable def numOf (cs : List Nat) : Nat := cs.foldl (fun a c => a * 10 + (c - 48)) 0
noncomputable def Figs (cs : List Nat) : Prop := cs ≠ [] ∧ cs.length ≤ 600 ∧ ∀ c ∈ cs, 48 ≤ c ∧ c ≤ 57
theorem foldlM_figs {f : Array Nat × Bool → Nat → Option (Array Nat × Bool)} (hf : ∀ ds b c, 48 ≤ c → c ≤ 57 → f (ds, b) c = some (ds.push (c - 48), true)) : ∀ (cs : List Nat) (ds : Array Nat) (b : Bool), (∀ c ∈ cs, 48 ≤ c ∧ c ≤ 57) →
    cs.foldlM f (ds, b) = some (ds ++ (cs.map (· - 48)).toArray, b || !cs.isEmpty)
  | [], ds, b, _ => by simp
  | c :: cs, ds, b, h => by
    rw [List.foldlM_cons, hf ds b c (h c (List.mem_cons_self ..)).1 (h c (List.mem_cons_self ..)).2]
    show cs.foldlM f (ds.push (c - 48), true) = _
    rw [foldlM_figs hf cs _ _ fun x hx => h x (List.mem_cons_of_mem _ hx)]
    simp
theorem dropWhile_no {p : Nat → Bool} {l : List Nat} (h : ∀ c ∈ l, p c = false) : l.dropWhile p = l := by
  cases l with
  | nil => rfl
  | cons c l => rw [List.dropWhile_cons, h c (List.mem_cons_self ..)]; rfl
theorem takeWhile_all {p : Nat → Bool} {l : List Nat} (h : ∀ c ∈ l, p c = true) : l.takeWhile p = l := by
  induction l with
  | nil => rfl
  | cons c l ih => rw [List.takeWhile_cons, h c (List.mem_cons_self ..), if_pos rfl, ih fun x hx => h x (List.mem_cons_of_mem _ hx)]
theorem noInt : typeLookup (.type "str") "__int__" = pure none := by rw [typeLookup_type, builtinLookup_eq_fast]; kernel_rfl
theorem noIndex : typeLookup (.type "str") "__index__" = pure none := by rw [typeLookup_type, builtinLookup_eq_fast]; kernel_rfl
theorem noTrunc : typeLookup (.type "str") "__trunc__" = pure none := by rw [typeLookup_type, builtinLookup_eq_fast]; kernel_rfl
local macro_rules | `(tactic| walk_at "cw blank") => do { let n := fun (x : Lean.Name) => Lean.mkIdent (Lean.mkPrivateNameCore `PySem.Builtin.Int.W0All x); `(tactic| have $(Lean.mkIdent `bl):ident : ∀ c, 48 ≤ c → c ≤ 57 → $(n `PySem.Builtin.isBlank) c = false := ?_) }
local macro_rules | `(tactic| walk_at "cw digit") => do { let n := fun (x : Lean.Name) => Lean.mkIdent (Lean.mkPrivateNameCore `PySem.Builtin.Int.W0All x); `(tactic| have $(Lean.mkIdent `dg):ident : ∀ c, 48 ≤ c → c ≤ 57 → $(n `PySem.Builtin.digitValue?) c = some (c - 48) := ?_) }
local macro_rules | `(tactic| walk_at "cw digits") => do { let n := fun (x : Lean.Name) => Lean.mkIdent (Lean.mkPrivateNameCore `PySem.Builtin.Int.W0All x); `(tactic| have $(Lean.mkIdent `nd):ident : ∀ cs, Figs cs → $(n `PySem.Builtin.numeralDigits?) 10 cs = some (cs.map (· - 48)).toArray := ?_) }
local macro_rules | `(tactic| walk_at "cw prefix") => do { let n := fun (x : Lean.Name) => Lean.mkIdent (Lean.mkPrivateNameCore `PySem.Builtin.Int.W0All x); `(tactic| have $(Lean.mkIdent `pf):ident : ∀ cs, Figs cs → $(n `PySem.Builtin.prefixBase?) cs = none := ?_) }
local macro_rules | `(tactic| walk_at "cw read") => do { let n := fun (x : Lean.Name) => Lean.mkIdent (Lean.mkPrivateNameCore `PySem.Builtin.Int.W0All x); `(tactic| have $(Lean.mkIdent `rn):ident : ∀ cs, Figs cs → $(n `PySem.Builtin.readNumeral) 0 10 cs = $(n `PySem.Builtin.Numeral.value) ((numOf cs : Nat) : Int) := ?_) }
local macro_rules | `(tactic| walk_at "cw unfold") => do { let n := fun (x : Lean.Name) => Lean.mkIdent (Lean.mkPrivateNameCore `PySem.Builtin.Int.W0All x); `(tactic| first | unfold $(n `PySem.Builtin.readNumeral):ident | unfold $(n `PySem.Builtin.prefixBase?):ident | unfold $(n `PySem.Builtin.numeralDigits?):ident | unfold $(n `PySem.Builtin.digitValue?):ident | unfold $(n `PySem.Builtin.isBlank):ident) }
theorem meets_int_new_str (x : Str) (u : Tok) (h : Figs x.cps.toList) : Meets (Builtin.«int.__new__» ⟨[.type "int", .str x u], []⟩) (Made.int (numOf x.cps.toList : Nat)).spec :=
  Meets.of_wp fun prog w A R s hs => by
    walk_at "cw blank"
    rotate_left
    · intro c h1 h2
      walk_at "cw unfold"
      have e1 : (c == 32) = false := by simp; lia
      have e2 : (decide (c ≤ 13)) = false := by simp; lia
      rw [e1, e2]; simp
    walk_at "cw digit"
    rotate_left
    · intro c h1 h2
      walk_at "cw unfold"
      rw [if_pos (by simp; exact ⟨h1, h2⟩)]
    walk_at "cw digits"
    rotate_left
    · intro cs hcs
      walk_at "cw unfold"
      rw [foldlM_figs (fun ds b c h1 h2 => by
        have e : (c == 95) = false := by simp; lia
        have e2 : c - 48 < 10 := by lia
        dsimp only
        rw [e, dg c h1 h2]
        simp [e2]) cs _ _ hcs.2.2]
      have : cs.isEmpty = false := by cases cs with
        | nil => exact absurd rfl hcs.1
        | cons _ _ => rfl
      simp [this]
    walk_at "cw prefix"
    rotate_left
    · intro cs hcs
      walk_at "cw unfold"
      split
      · rename_i c r
        have := hcs.2.2 c (by simp)
        have e1 : (c == 120) = false := by simp; lia
        have e2 : (c == 88) = false := by simp; lia
        have e3 : (c == 111) = false := by simp; lia
        have e4 : (c == 79) = false := by simp; lia
        have e5 : (c == 98) = false := by simp; lia
        have e6 : (c == 66) = false := by simp; lia
        simp [e1, e2, e3, e4, e5, e6]
      · rfl
    walk_at "cw read"
    rotate_left
    · intro cs hcs
      walk_at "cw unfold"
      have b1 : ∀ c ∈ cs, _ := fun c hc => bl c (hcs.2.2 c hc).1 (hcs.2.2 c hc).2
      rw [dropWhile_no b1]
      obtain ⟨c, r, rfl⟩ := List.exists_cons_of_ne_nil hcs.1
      have hc := hcs.2.2 c (List.mem_cons_self ..)
      have hsz : ¬ ((c :: r).map (· - 48)).toArray.size > 6000 := by
        have := hcs.2.1
        rw [List.size_toArray, List.length_map]
        lia
      have hrv := dropWhile_no fun x hx => b1 x (List.mem_reverse.mp hx)
      have hcc : c = 48 ∨ c = 49 ∨ c = 50 ∨ c = 51 ∨ c = 52 ∨ c = 53 ∨ c = 54 ∨ c = 55 ∨ c = 56 ∨ c = 57 := by lia
      have p1 := pf _ hcs
      have p2 := nd _ hcs
      have p3 : ((c :: r).map (· - 48)).toArray.foldl (fun acc d => acc * 10 + d) 0 = numOf (c :: r) := by
        unfold numOf
        rw [List.foldl_toArray, List.foldl_map]
      rcases hcc with rfl | rfl | rfl | rfl | rfl | rfl | rfl | rfl | rfl | rfl
      all_goals
        simp [p1]
        rw [← List.reverse_cons, hrv, List.reverse_reverse, p2]
        dsimp only
        rw [if_neg hsz, p3]
    obtain ⟨hp, g, d, tk, os⟩ := s
    have f1 := F.conv_sub_int
    have f2 := F.madeHere_int
    have hT : (⟨hp, g, d, tk, os⟩ : Shared).TypeIs (.str x u) "str" := rfl
    have f3 := noInt
    have f4 := noIndex
    have f5 := noTrunc
    have e1 : (x.cps.all fun c => decide (c < 128)) = true := by
      rw [← Array.all_toList, List.all_eq_true]
      intro c hc
      have := h.2.2 c hc
      simp
      lia
    have e2 : x.cps.toList.takeWhile (fun c => c != 0) = x.cps.toList := takeWhile_all fun c hc => by
      have := h.2.2 c hc
      simp
      lia
    have r1 := rn _ h
    have hl : x.cps.toList.length ≤ 640 := by have := h.2.1; lia
    repeat (any_goals (first | assumption | wp_step))
    rw [e1, if_pos rfl, e2, if_pos hl]
    refine wpAny_bind (wpAny_pure ?_)
    dsimp only
    rw [r1]
    dsimp only
    rw [if_pos (by simp)]
    repeat (any_goals (first | assumption | wp_step))
    all_goals first | exact ⟨_, rfl, hs⟩ | skip
theorem call_int_str {prog : Program} {w : World} {A : Around} {E : Value → Shared → Prop} {s : Shared} {x : Str} {u : Tok} {Q : Value → Shared → Prop} (hx : Figs x.cps.toList) (h : Q (.int (numOf x.cps.toList : Nat) s.toks) { s with toks := s.toks + 1 }) : wpAny (model prog w) A (call (.type "int") [.str x u]) Q E s :=
  call_int_1 (meets_int_new_str x u hx) (show (Made.int (numOf x.cps.toList : Nat)).post _ s from ⟨rfl, h⟩)
inductive rIntSP (xs : List V) (H : Hp) (Q : VK) : Prop
  | mk (x : Str) (h_0 : xs = [.str x]) (h_1 : Figs x.cps.toList) (h_2 : Q (.int (numOf x.cps.toList : Nat)) H)
noncomputable def rIntS : List V → Hp → VK → Prop := fun xs H Q => rIntSP xs H Q
theorem call_intS {X : Cx} : CallR X (.type "int") rIntS := by
  intro pins s σ H xs us Q I r h
  obtain ⟨x, rfl, hx, q⟩ := h
  obtain ⟨u, rfl, ru⟩ := vals1 r
  obtain ⟨t, rfl⟩ := ru
  exact call_int_str hx ⟨.int (numOf x.cps.toList : Nat), H, I.tok _, ⟨_, rfl⟩, q⟩
noncomputable def dObj (w : World) (a b c d : Str) (t1 t2 t3 t4 : Tok) (ep : Nat) : Obj :=
  ⟨.type "dict", none, .dict (List.toArray [⟨PyData.keyHash w.params a, .str a t1, .str b t2⟩, ⟨PyData.keyHash w.params c, .str c t3, .str d t4⟩]) ep, #[]⟩
structure KD (K : PySem.W.Frag) (w : World) (p : Addr) (a b c d : Str) : Prop where
  ne : a ≠ c
  sm : (p == sysModules) = false
  at_ : ∃ t1 t2 t3 t4 ep, K.lookup p = some (dObj w a b c d t1 t2 t3 t4 ep)
section
variable {X : Cx} {pins : List (Addr × Obj)} {σ : St} {H : Hp} {s : Shared} {p : Addr} {a b c d : Str}
theorem KD.dict (k : KD X.K X.w p a b c d) (I : Inv X pins σ H s) : ∃ t2 t4, s.heap.DictOf (mixKind X.prog X.w) p [(Sum.inr a, .str b t2), (Sum.inr c, .str d t4)] := by
  obtain ⟨t1, t2, t3, t4, ep, e⟩ := k.at_
  refine ⟨t2, t4, _, _, _, I.kIn _ _ e, ?_, rfl, ?_, ?_, ?_⟩
  · exact ⟨rfl, rfl, rfl⟩
  · intro x hx
    have hx : x ∈ [(⟨PyData.keyHash X.w.params a, .str a t1, .str b t2⟩ : DictEntry), ⟨PyData.keyHash X.w.params c, .str c t3, .str d t4⟩] := by simpa using hx
    rcases List.mem_cons.mp hx with rfl | hx
    · exact ⟨Sum.inr a, keyIs_str a t1, rfl⟩
    · rw [List.mem_singleton.mp hx]
      exact ⟨Sum.inr c, keyIs_str c t3, rfl⟩
  · exact .cons (keyIs_str a t1) rfl (.cons (keyIs_str c t3) rfl .nil)
  · refine List.nodup_cons.mpr ⟨fun z => ?_, List.nodup_cons.mpr ⟨fun z => (nomatch z), List.nodup_nil⟩⟩
    have := List.mem_singleton.mp z
    injection this with this
    exact k.ne this
noncomputable def kdv (a b c d : Str) (x : Str) : Option Str := if x = a then some b else if x = c then some d else none
inductive KGetP (a b c d : Str) (y : V) (H1 : Hp) (Q : VK) : Prop
  | mk (x v : Str) (h0 : y = .str x) (h1 : kdv a b c d x = some v) (q : Q (.str v) H1)
noncomputable def tKGet (a b c d : Str) (ty : TE) : TE := fun σ H Q => ty σ H fun y H1 => KGetP a b c d y H1 Q
theorem kdv_at {x v : Str} {t2 t4 : Tok} (h : kdv a b c d x = some v) : ∃ t, valueAt [((Sum.inr a : Key), Value.str b t2), (Sum.inr c, .str d t4)] (Sum.inr x) = some (.str v t) := by
  unfold kdv at h
  unfold valueAt
  by_cases e1 : x = a
  · subst e1
    rw [if_pos rfl] at h
    cases h
    exact ⟨t2, by simp⟩
  · rw [if_neg e1] at h
    by_cases e2 : x = c
    · subst e2
      rw [if_pos rfl] at h
      cases h
      refine ⟨t4, ?_⟩
      have : ¬ (Sum.inr a : Key) = Sum.inr x := fun z => e1 (Sum.inr.inj z).symm
      simp [this]
    · rw [if_neg e2] at h; cases h
theorem kdv_is {x : Str} {t2 t4 : Tok} : (valueAt [((Sum.inr a : Key), Value.str b t2), (Sum.inr c, .str d t4)] (Sum.inr x)).isSome = (kdv a b c d x).isSome := by
  unfold kdv valueAt
  by_cases e1 : x = a
  · subst e1; simp
  · have h1 : ¬ (Sum.inr a : Key) = Sum.inr x := fun z => e1 (Sum.inr.inj z).symm
    rw [if_neg e1]
    by_cases e2 : x = c
    · subst e2; simp [h1]
    · have h2 : ¬ (Sum.inr c : Key) = Sum.inr x := fun z => e2 (Sum.inr.inj z).symm
      rw [if_neg e2]
      simp [h1, h2]
theorem pe_kget {i : Expr} {ty : TE} {n : Str} {np pos : Pos} (k : KD X.K X.w p a b c d) (hg : Gl X n) (hm : X.mg n = some (.ref p)) (hi : PE X i ty) (hs : NoSl i) (hdb : (n == ("__debug__" : Str)) = false := by decide) : PE X (.Subscript (.Name n np) i pos) (tKGet a b c d ty) := by
  intro pins s σ H Q I h
  refine subD_of PySem.F.slot_dict_getitem.lookup hs (ld_glob I hg hm ?_ hdb)
  refine thn (hi pins s σ H _ I h) fun iv s2 z_ => ?_
  obtain ⟨y, H2, I2, ry, x, v, rfl, hv, q⟩ := z_
  obtain ⟨tx, rfl⟩ := ry
  obtain ⟨t2, t4, dd⟩ := k.dict I2
  obtain ⟨t, ht⟩ := kdv_at (t2 := t2) (t4 := t4) hv
  exact ⟨dd.typeIs, wpAny_getItem_of (mixKind_str X.prog X.w x tx) dd.mapOf ht ⟨.str v, H2, I2.tok _, ⟨_, rfl⟩, q⟩⟩
inductive KInP (a b c d : Str) (y : V) (H1 : Hp) (Q : VK) : Prop
  | mk (x : Str) (h0 : y = .str x) (q : Q (.bl (!(kdv a b c d x).isSome)) H1)
noncomputable def tKNotIn (a b c d : Str) (ty : TE) : TE := fun σ H Q => ty σ H fun y H1 => KInP a b c d y H1 Q
theorem pc_knotin {i : Expr} {ty : TE} {n : Str} {np : Pos} (k : KD X.K X.w p a b c d) (hg : Gl X n) (hm : X.mg n = some (.ref p)) (hi : PE X i ty) (hdb : (n == ("__debug__" : Str)) = false := by decide) : PC X .NotIn i (.Name n np) (tKNotIn a b c d ty) := by
  intro pins s σ H Q I h
  refine thn (hi pins s σ H _ I h) fun iv s1 z_ => ?_
  obtain ⟨y, H2, I2, ry, x, rfl, q⟩ := z_
  obtain ⟨tx, rfl⟩ := ry
  refine ld_glob I2 hg hm ?_ hdb
  obtain ⟨t2, t4, dd⟩ := k.dict I2
  refine wpAny_notIn_of (mixKind_str X.prog X.w x tx) k.sm dd.mapOf ?_
  rw [kdv_is]
  exact ⟨.bl _, H2, I2.tok _, rfl, q⟩
end
end L2

set_option Elab.async false
set_option linter.all false
set_option maxRecDepth 100000
set_option maxHeartbeats 2000000
namespace L2
open PySem PySem.Spec PyProof.Rows
inductive rInSP (x y : V) (H : Hp) (Q : VK) : Prop
  | mk (i j : Str) (h_0 : x = .str i) (h_1 : y = .str j) (h_2 : Q (.bl (!(Builtin.Str.occurrences j i 0 j.length 1).isEmpty)) H)
noncomputable def rInS : R2 := fun x y H Q => rInSP x y H Q
theorem op_inS {X : Cx} : OpR X (compareOp .In) rInS := by
  intro pins s σ H x y v u Q I rx ry h
  obtain ⟨i, j, e1, e2, q⟩ := h
  exact op_in_str pins s σ H x y v u Q I rx ry ⟨i, j, e1, e2, q⟩
end L2
namespace Cw
open PySem L2
noncomputable abbrev cl (x : Str) : List Nat := x.cps.toList
theorem cl_ext {x y : Str} (h : cl x = cl y) : x = y := by
  obtain ⟨⟨a⟩⟩ := x
  obtain ⟨⟨b⟩⟩ := y
  have h : a = b := h
  rw [h]
theorem cl_app (x y : Str) : cl (x ++ y) = cl x ++ cl y := by
  show (x.cps ++ y.cps).toList = _
  rw [Array.toList_append]
theorem cl_len (x : Str) : (cl x).length = x.length := by
  show x.cps.toList.length = x.cps.size
  rw [Array.length_toList]
theorem cl_of (s : String) : cl (Str.ofString s) = s.toList.map Char.toNat := by
  rw [Str.ofString_eq_toList]
noncomputable def num (i : Int) : Str := Str.ofString (toString i)
theorem cl_num (n : Nat) : cl (num ((n : Nat) : Int)) = (Nat.toDigits 10 n).map Char.toNat := by
  unfold num
  rw [cl_of]
  show (Nat.repr n).toList.map Char.toNat = _
  rw [Nat.toList_repr]
theorem num_len {n k : Nat} (hk : 0 < k) (h : n < 10 ^ k) : (num ((n : Nat) : Int)).length ≤ k := by
  rw [← cl_len, cl_num, List.length_map]
  exact (Nat.length_toDigits_le_iff (by decide) hk).mpr h
noncomputable def one (c : Nat) : Str := ⟨#[c]⟩
theorem app_uniq {c : Nat} : ∀ {a b r s : List Nat}, c ∉ a → c ∉ b → a ++ c :: r = b ++ c :: s → a = b ∧ r = s
  | [], [], _, _, _, _, h => ⟨rfl, by injection h⟩
  | [], y :: b, _, _, _, hb, h => by
    rw [List.nil_append, List.cons_append] at h
    injection h with h1 h2
    exact absurd (by rw [h1]; exact List.mem_cons_self ..) hb
  | x :: a, [], _, _, ha, _, h => by
    rw [List.nil_append, List.cons_append] at h
    injection h with h1 h2
    exact absurd (by rw [← h1]; exact List.mem_cons_self ..) ha
  | x :: a, y :: b, _, _, ha, hb, h => by
    rw [List.cons_append, List.cons_append] at h
    injection h with h1 h2
    obtain ⟨e1, e2⟩ := app_uniq (fun z => ha (List.mem_cons_of_mem _ z)) (fun z => hb (List.mem_cons_of_mem _ z)) h2
    exact ⟨by rw [h1, e1], e2⟩
theorem cl_join2 (c : Nat) (p q : Str) (ps : List Str) : cl (Str.join (one c) (p :: q :: ps)) = cl p ++ c :: cl (Str.join (one c) (q :: ps)) := by
  show cl (p ++ one c ++ Str.join (one c) (q :: ps)) = _
  rw [cl_app, cl_app, List.append_assoc]
  rfl
theorem join_inj (c : Nat) : ∀ (ps qs : List Str), ps ≠ [] → qs ≠ [] → (∀ p ∈ ps, c ∉ cl p) → (∀ p ∈ qs, c ∉ cl p) → Str.join (one c) ps = Str.join (one c) qs → ps = qs
  | [], _, h, _, _, _, _ => absurd rfl h
  | _ :: _, [], _, h, _, _, _ => absurd rfl h
  | [p], [q], _, _, _, _, h => by
    have h : p = q := h
    rw [h]
  | [p], q :: q2 :: qs, _, _, hp, _, h => by
    have h : p = Str.join (one c) (q :: q2 :: qs) := h
    refine absurd ?_ (hp p (List.mem_cons_self ..))
    rw [h, cl_join2]
    simp
  | p :: p2 :: ps, [q], _, _, _, hq, h => by
    have h : Str.join (one c) (p :: p2 :: ps) = q := h
    refine absurd ?_ (hq q (List.mem_cons_self ..))
    rw [← h, cl_join2]
    simp
  | p :: p2 :: ps, q :: q2 :: qs, _, _, hp, hq, h => by
    have h := congrArg cl h
    rw [cl_join2, cl_join2] at h
    obtain ⟨e1, e2⟩ := app_uniq (hp p (List.mem_cons_self ..)) (hq q (List.mem_cons_self ..)) h
    rw [cl_ext e1, join_inj c (p2 :: ps) (q2 :: qs) (by simp) (by simp) (fun x hx => hp x (List.mem_cons_of_mem _ hx)) (fun x hx => hq x (List.mem_cons_of_mem _ hx)) (cl_ext e2)]
theorem split_ne (x y : Str) : Txt.split x y ≠ [] := by
  unfold Txt.split
  split
  · simp
  · split
    · simp
    · rw [StrLaws.partsBetween_eq]
      obtain ⟨p, r, e⟩ := StrLaws.partsFrom_ne x y.length 0 (Builtin.Str.occurrences x y 0 x.length (x.length + 1))
      rw [e]
      simp
theorem split_join {c : Nat} {ps : List Str} (hne : ps ≠ []) (hf : ∀ p ∈ ps, c ∉ cl p) : Txt.split (Str.join (one c) ps) (one c) = ps :=
  join_inj c _ _ (split_ne _ _) hne (StrLaws.split_free _ c) hf (StrLaws.join_split _ _)
theorem cl_sub (x : Str) (i j : Nat) : cl (Builtin.Str.strSub x i j) = ((cl x).drop i).take (j - i) := by
  show (x.cps.extract i j).toList = _
  rw [Array.toList_extract, List.extract_eq_take_drop]
theorem lit_eq : (Str.ofString "=") = one 61 := by decide +kernel
theorem lit_sp : (Str.ofString " ") = one 32 := by decide +kernel
theorem lit_nl : (Str.ofString "\n") = one 10 := by decide +kernel
theorem lit_ex : (Str.ofString "!") = one 33 := by decide +kernel
theorem lit_qu : (Str.ofString "?") = one 63 := by decide +kernel
theorem lit_mi : (Str.ofString "-") = one 45 := by decide +kernel
theorem lit_ze : (Str.ofString "0") = one 48 := by decide +kernel
theorem lit_em : cl (Str.ofString "") = [] := by decide +kernel
structure EvOk (e : Ev) : Prop where
  l0 : 0 ≤ e.l
  l1 : e.l ≤ 99
  v0 : -1000000000 ≤ e.v
  v1 : e.v ≤ 1000000000
  own : e.k = .own → e.l = 0
theorem lens_le {α : Type} {B : Nat} (f : α → Str) : ∀ (l : List α), (∀ x ∈ l, (f x).length ≤ B) → ((l.map f).map (·.length)).sum ≤ B * l.length
  | [], _ => Nat.le_refl _
  | x :: l, h => by
    have h1 := h x (List.mem_cons_self ..)
    have h2 := lens_le f l fun y hy => h y (List.mem_cons_of_mem _ hy)
    rw [List.map_cons, List.map_cons, List.sum_cons, List.length_cons, Nat.mul_add, Nat.mul_one]
    lia
theorem join_codes {s : Nat} : ∀ {ps : List Str} {c : Nat}, c ∈ cl (Str.join (one s) ps) → c = s ∨ ∃ p ∈ ps, c ∈ cl p
  | [], _, h => by cases h
  | [p], _, h => .inr ⟨p, List.mem_cons_self .., h⟩
  | p :: q :: ps, c, h => by
    rw [cl_join2] at h
    rcases List.mem_append.mp h with h | h
    · exact .inr ⟨p, List.mem_cons_self .., h⟩
    · rcases List.mem_cons.mp h with h | h
      · exact .inl h
      · rcases join_codes h with h | ⟨x, hx, h⟩
        · exact .inl h
        · exact .inr ⟨x, List.mem_cons_of_mem _ hx, h⟩
theorem join_ok {sep : Str} {texts : List Str} {B : Nat} (hB : ∀ y ∈ texts, y.length ≤ B) (h : texts.length * B + texts.length * sep.length ≤ 16777216) : JoinOk sep texts = true := by
  unfold JoinOk
  rw [StrLaws.joinFits hB h]
  rfl
end Cw

set_option Elab.async false
set_option linter.all false
set_option maxRecDepth 100000
set_option maxHeartbeats 2000000
namespace L2
open PySem PySem.Spec PyProof.Rows
section
variable {X : Cx} {e : Expr} {es : List Expr} {te : TE} {t : TM} {pos : Pos}
end
end L2

set_option Elab.async false
set_option linter.all false
set_option maxRecDepth 100000
set_option maxHeartbeats 4000000
namespace Cw
open PySem L2
theorem iteNN {c A B : Prop} [Decidable c] (hc : ¬ c) (h : A) : if (!decide c) = true then A else B := by
  rw [decide_eq_false hc]
  exact iteT h
end Cw
namespace Cw
open PySem L2
end Cw
namespace Cw
theorem iteT2 {c A B : Prop} [Decidable c] (hc : c) (h : A) : if decide c = true then A else B := by
  rw [decide_eq_true hc, if_pos rfl]
  exact h
theorem iteNo {b : Bool} {A B : Prop} (hb : b = false) (h : B) : if b = true then A else B := by
  rw [hb, if_neg Bool.false_ne_true]
  exact h
end Cw

set_option Elab.async false
set_option linter.all false
set_option maxRecDepth 100000
set_option maxHeartbeats 2000000
namespace Cw
open PySem L2
end Cw
namespace Cw
open PySem L2
end Cw
namespace Cw
open PySem L2
end Cw

set_option Elab.async false
set_option linter.all false
set_option maxRecDepth 100000
set_option maxHeartbeats 4000000
namespace Cw
open PySem L2
theorem uniq_of_nodup {k : Kd} {rs : Rows} (h : ((places k rs).map (·.1)).Nodup) : Uniq k rs := by
  intro i p i' p' e e' q q' hk hk' hl
  have m1 := mem_places.mpr ⟨e, q, hk, rfl⟩
  have m2 : (e.l, i', p') ∈ places k rs := mem_places.mpr ⟨e', q', hk', hl.symm⟩
  have gen : ∀ (xs : List (Int × Nat × Nat)), (xs.map (·.1)).Nodup → ∀ a ∈ xs, ∀ b ∈ xs, a.1 = b.1 → a = b := by
    intro xs
    induction xs with
    | nil => intro _ a ha; cases ha
    | cons x xs ih =>
      intro nd a ha b hb e
      rw [List.map_cons] at nd
      obtain ⟨n1, n2⟩ := List.nodup_cons.mp nd
      rcases List.mem_cons.mp ha with e1 | ha'
      · rcases List.mem_cons.mp hb with e2 | hb'
        · rw [e1, e2]
        · exact absurd (List.mem_map.mpr ⟨b, hb', by rw [← e, e1]⟩) n1
      · rcases List.mem_cons.mp hb with e2 | hb'
        · exact absurd (List.mem_map.mpr ⟨a, ha', by rw [e, e2]⟩) n1
        · exact ih n2 a ha' b hb' e
  have := gen _ h _ m1 _ m2 rfl
  cases this
  exact ⟨rfl, rfl⟩
theorem twice {k : Kd} {rs : Rows} {i j : Nat} {r : List Ev} {e : Ev} (hr : rs[i]? = some r) (he : r[j]? = some e) (hk : e.k = k) (hm : e.l ∈ (soFar k rs i j).map (·.1)) : ¬ Uniq k rs := fun u => soFar_new u hr he hk hm
theorem soFar_nd {k : Kd} {rs : Rows} {i j : Nat} {r : List Ev} {e : Ev} (hr : rs[i]? = some r) (he : r[j]? = some e) (hn : ((soFar k rs i j).map (·.1)).Nodup) (hm : e.k = k → e.l ∉ (soFar k rs i j).map (·.1)) : ((soFar k rs i (j + 1)).map (·.1)).Nodup := by
  rw [soFar_ev hr he]
  split
  · rename_i h
    rw [List.map_append]
    exact nd_snoc hn (hm h)
  · rw [List.append_nil]; exact hn
theorem pl_mem {H : Hp} {l : Int} {v : V} {kvs : List (Key × V)} {xs : List (Int × Nat × Nat)} (m : Paired (PlA H) kvs xs) (h : valV kvs (Sum.inl l : Key) = some v) : l ∈ xs.map (·.1) := by
  by_cases q : l ∈ xs.map (·.1)
  · exact q
  · rw [pl_none m q] at h; cases h
noncomputable def Bad (rs : Rows) : Prop := ¬ Uniq .send rs ∨ ¬ Uniq .take rs ∨ ¬ Sent rs
theorem sent_of {H : Hp} {rs : Rows} {skvs tkvs : List (Key × V)} (sm : Paired (PlA H) skvs (places .send rs)) (tm : Paired (PlA H) tkvs (places .take rs)) (us : Uniq .send rs) : (∀ kv ∈ tkvs, (valV skvs kv.1).isSome = true) ↔ Sent rs := by
  constructor
  · intro h i p e q hk
    have m : (e.l, i, p) ∈ places .take rs := mem_places.mpr ⟨e, q, hk, rfl⟩
    obtain ⟨n, hn⟩ := List.getElem?_of_mem m
    obtain ⟨kv, hkv, hp⟩ := Paired.getR tm hn
    have z := h kv (List.mem_of_getElem? hkv)
    rw [hp.1] at z
    obtain ⟨v, hv⟩ := Option.isSome_iff_exists.mp z
    have ml := pl_mem sm hv
    obtain ⟨⟨l, a, b⟩, hx, hl⟩ := List.mem_map.mp ml
    obtain ⟨e', q', k', l'⟩ := mem_places.mp hx
    exact ⟨a, b, e', q', k', l'.trans hl⟩
  · intro h kv hkv
    obtain ⟨n, hn⟩ := List.getElem?_of_mem hkv
    obtain ⟨⟨l, a, b⟩, hx, hp⟩ := Paired.get tm hn
    obtain ⟨e, q, k, l'⟩ := mem_places.mp (List.mem_of_getElem? hx)
    obtain ⟨i, p, e', q', k', l2⟩ := h a b e q k
    obtain ⟨t, hv, _⟩ := pl_some sm (places_nodup us) (mem_places.mpr ⟨e', q', k', l2.trans l'⟩)
    rw [hp.1, hv]; rfl
structure ExcC (K : PySem.W.Frag) (mg : Str → Option Value) (C RE BL RI NE NC NN : Addr) : Prop where
  m_RecordError : mg "RecordError" = some (.ref RE)
  m_BadLetter : mg "BadLetter" = some (.ref BL)
  m_Ring : mg "Ring" = some (.ref RI)
  m_NoEvent : mg "NoEvent" = some (.ref NE)
  m_NoCut : mg "NoCut" = some (.ref NC)
  m_NoNote : mg "NoNote" = some (.ref NN)
  m_Record : mg "Record" = some (.ref C)
  m_ValueError : mg "ValueError" = none
  root : XRoot K RE
  x_BadLetter : XCls K BL
  x_NoEvent : XCls K NE
  a_BadLetter : XAt K BL
  a_NoEvent : XAt K NE
  s_BadLetter : PySem.W.subIn K (.ref BL) (.ref RE) = some true
  s_NoEvent : PySem.W.subIn K (.ref NE) (.ref RE) = some true
  k_BadLetter : PySem.W.kitOne K (.ref BL) (.ref BL) = some true ∧ PySem.W.kitOne K (.ref BL) (.ref RI) = some false ∧ PySem.W.kitOne K (.ref BL) (.ref NE) = some false ∧ PySem.W.kitOne K (.ref BL) (.ref NC) = some false ∧ PySem.W.kitOne K (.ref BL) (.ref NN) = some false ∧
    PySem.W.kitOne K (.ref BL) (.ref RE) = some true ∧ PySem.W.kitOne K (.ref BL) (.type "ValueError") = some true
  k_NoEvent : PySem.W.kitOne K (.ref NE) (.ref BL) = some false ∧ PySem.W.kitOne K (.ref NE) (.ref RI) = some false ∧ PySem.W.kitOne K (.ref NE) (.ref NE) = some true ∧ PySem.W.kitOne K (.ref NE) (.ref NC) = some false ∧ PySem.W.kitOne K (.ref NE) (.ref NN) = some false ∧
    PySem.W.kitOne K (.ref NE) (.ref RE) = some true ∧ PySem.W.kitOne K (.ref NE) (.type "ValueError") = some true
  r_cl : PySem.W.findIn K (.ref C) "__class__" = some (some (.builtin "object.__class__"))
  r_sp : PySem.W.specialIn K (.builtin "object.__class__") "__get__" = some (some (.builtin "getset_descriptor.__get__"))
  r_tk : PySem.W.takesIn K (.builtin "object.__class__") = some true
  r_mo : PySem.W.mroIn K C (.type "object") = some true
  r_it : PySem.W.kitOne K (.ref C) (.ref C) = some true
inductive sp_placesRP (BL : Addr) (vs : List V) (H : Hp) (Q : VK) (E : XK) : Prop
  | mk (a : Addr) (ps : List Addr) (rs : Rows) (k : Kd) (h_0 : vs = [.ref a, .str k.str]) (h_1 : RowsA H a ps rs) (h_2 : Bnd rs) (h_3 : (Uniq k rs → ∀ (d : Addr) (kvs : List (Key × V)) (H' : Hp), Same H H' → H d = none → H' d = some (.dK kvs) → Paired (PlA H') kvs (places k rs) → Q (.ref d) H')) (h_4 : (¬ Uniq k rs → ∀ H', Same H H' → E (.ref BL) none H'))
noncomputable def sp_placesR (BL : Addr) : Sp := fun vs H Q E => sp_placesRP BL vs H Q E
inductive sp_checkRP (BL : Addr) (vs : List V) (H : Hp) (Q : VK) (E : XK) : Prop
  | mk (sd : Addr) (td : Addr) (skvs : List (Key × V)) (tkvs : List (Key × V)) (h_0 : vs = [.ref sd, .ref td]) (h_1 : H sd = some (.dK skvs)) (h_2 : H td = some (.dK tkvs)) (h_3 : sd ≠ td) (h_4 : (∀ kv ∈ tkvs, ∃ l : Int, kv.1 = Sum.inl l ∧ 0 ≤ l ∧ l ≤ 99)) (h_5 : ((∀ kv ∈ tkvs, (valV skvs kv.1).isSome = true) → ∀ o, Q .non (L2.upd H td (.frz o (.dK tkvs))))) (h_6 : (¬ (∀ kv ∈ tkvs, (valV skvs kv.1).isSome = true) → ∀ H', Kept (fun b => b = td) H H' → E (.ref BL) none H'))
noncomputable def sp_checkR (BL : Addr) : Sp := fun vs H Q E => sp_checkRP BL vs H Q E
end Cw

set_option Elab.async false
set_option linter.all false
set_option maxRecDepth 100000
set_option maxHeartbeats 4000000
namespace Cw
open PySem L2
theorem Paired.app {α β : Type} {F : α → β → Prop} : ∀ {xs xs' : List α} {ys ys' : List β}, Paired F xs ys → Paired F xs' ys' → Paired F (xs ++ xs') (ys ++ ys')
  | _, _, _, _, .nil, q => q
  | _, _, _, _, .cons h t, q => .cons h (Paired.app t q)
end Cw

set_option Elab.async false
set_option linter.all false
set_option maxRecDepth 100000
set_option maxHeartbeats 2000000
namespace L2
open PySem PySem.Spec PyProof.Rows
section
variable {prog : Program} {w : World} {A : Around} {E : Value → Shared → Prop} {h : Heap} {g : Array GenState} {d : Drawn} {t : Nat} {os : OsState}
variable {nm qn : Str} {C N : Addr} {bs bm : List Value} {hb : Bool} {sn : List Str} {sub : List Value} {ab : Bool} {col : Option Bool} {dd : Option Addr} {k0 k1 k2 k3 k5 : Option Value}
noncomputable abbrev newEx (C : Addr) (rest : List Value) (h : Heap) : Heap := (h.push { cls := .type "tuple", data := .seq rest.toArray }).push { cls := .ref C, data := .fields #[.ref h.objs.size, .none, .none, .none, .bool false, .none] }
theorem newEx_keeps {C : Addr} {rest : List Value} {h : Heap} {b : Addr} {o : Obj} (e : h.get? b = some o) : (newEx C rest h).get? b = some o := Heap.get?_push_of_some _ (Heap.get?_push_of_some _ e)
theorem newEx_at {C : Addr} {rest : List Value} {h : Heap} : (newEx C rest h).get? (h.objs.size + 1) = some { cls := .ref C, data := .fields #[.ref h.objs.size, .none, .none, .none, .bool false, .none] } := by
  unfold newEx
  heap_get
theorem newEx_made {C : Addr} {rest : List Value} {h : Heap} : Heap.MadeExcOf h (newEx C rest h) (h.objs.size + 1) (.ref C) rest :=
  ⟨fun b o e => newEx_keeps e, Heap.get?_none_of_le (Nat.le_succ _), h.objs.size, newEx_at, Heap.get?_none_of_le (Nat.le_refl _), Heap.get?_push_of_some _ (Heap.get?_push_at rfl rfl)⟩
theorem type_ini (T : OwnTail h mroV bm) {rest : List Value} {fI : Addr} {oI : Obj} {Q : Fin → Shared → Prop} (hC : h.get? C = some (excClassObj nm qn C N bs bm hb sn sub ab col dd k0 k1 k2 k3 k5 "ValueError.__new__"))
    (hl : PySem.W.Looks (model prog w) h (typeLookup (.ref C) "__init__") (some (.ref fI))) (hfI : h.get? fI = some oI) (hfc : oI.cls = .type "function")
    (hq : wpAny (model prog w) A (call (.ref fI) (.ref (h.objs.size + 1) :: rest)) (fun r s' => r = .none ∧ Q (.done (.ret (.ref (h.objs.size + 1)))) s') E ⟨newEx C rest h, g, d, t, os⟩) (hz : rest.length ≤ sizeLine) :
    wpAny (model prog w) A (Builtin.«type.__call__» ⟨.ref C :: rest, []⟩) Q E ⟨h, g, d, t, os⟩ := by
  have FB := PySem.F.excBase_ValueError
  repeat (first
    | with_reducible refine wpAny_loadPart_at hC ?_
    | with_reducible refine wpAny_madeBy_exc hC ?_
    | wp_step)
  refine codeAny_call_builtin_code (Code.quiet_builtin _ FB.quiet)
    (wpAny_check_new_subT FB T hC ?_)
  refine codeAny_exc_new_subT FB T hC ?_ hz
  have hC1 : (newEx C rest h).get? C = some (excClassObj nm qn C N bs bm hb sn sub ab col dd k0 k1 k2 k3 k5 "ValueError.__new__") := newEx_keeps hC
  have hf1 : (newEx C rest h).get? fI = some oI := newEx_keeps hfI
  have hself : (Value.ref C :: bm).contains (.ref C) = true := by simp
  have hat := newEx_at (C := C) (rest := rest) (h := h)
  have hl1 := hl.keeps (h' := newEx C rest h) fun b o e => newEx_keeps e
  show wpAny _ _ _ _ _ ⟨newEx C rest h, g, d, t, os⟩
  unfold isInstance
  repeat (first
    | with_reducible refine wpAny_loadPart_at hat ?_
    | (with_reducible refine wpAny_isSubtype_exc hC1 ?_; rw [hself])
    | wp_step)
  show wpAny _ _ (typeLookup (.ref C) _) _ _ _
  refine hl1.at ?_
  refine wpAny_holding (wpAny_bind ?_)
  unfold bindSpecial
  refine wpAny_bind (wpAny_typeOf (T := "function") ⟨_, hf1, hfc⟩ ?_)
  rw [if_pos (by decide)]
  refine wpAny_pure (wpAny_bind (wpAny_mono hq (fun r s' hr => ?_) fun _ _ y => y))
  obtain ⟨rfl, hQ⟩ := hr
  wp_walk
  exact hQ
theorem call_ini (T : OwnTail h mroV bm) {rest : List Value} {fI : Addr} {oI : Obj} {Q : Value → Shared → Prop} (hC : h.get? C = some (excClassObj nm qn C N bs bm hb sn sub ab col dd k0 k1 k2 k3 k5 "ValueError.__new__"))
    (hl : PySem.W.Looks (model prog w) h (typeLookup (.ref C) "__init__") (some (.ref fI))) (hfI : h.get? fI = some oI) (hfc : oI.cls = .type "function")
    (hq : wpAny (model prog w) (A.under (.builtin "type.__call__" ⟨.ref C :: rest, []⟩)) (call (.ref fI) (.ref (h.objs.size + 1) :: rest)) (fun r s' => r = .none ∧ Q (.ref (h.objs.size + 1)) s') E ⟨newEx C rest h, g, d, t, os⟩) (hz : rest.length ≤ sizeLine) :
    wpAny (model prog w) A (call (.ref C) rest) Q E ⟨h, g, d, t, os⟩ := by
  have c1 := tc_lookup
  have c2 := tc_bind (.ref C)
  have hTy : (⟨h, g, d, t, os⟩ : Shared).TypeIs (.ref C) "type" := ⟨_, hC, rfl⟩
  refine wpAny_call (codeAny_of_tree ?_)
  show wpAny _ _ (callAny (.ref C) _) _ _ _
  repeat (any_goals (first
    | assumption
    | with_reducible refine wpAny_loadPart_at hC ?_
    | wp_step))
  refine ⟨rfl, ?_⟩
  refine codeAny_call_builtin_at (Code.quiet_builtin _ (by decide +kernel)) entry_typeCall
    (wpAny_check_type_call_sub hC (type_ini T hC hl hfI hfc hq hz))
theorem call_vinit (T : OwnTail h mroV bm) {e : Addr} {oe : Obj} {vs : Array Value} {rest : List Value} {Q : Value → Shared → Prop} (hC : h.get? C = some (excClassObj nm qn C N bs bm hb sn sub ab col dd k0 k1 k2 k3 k5 "ValueError.__new__"))
    (he : h.get? e = some oe) (hc : oe.cls = .ref C) (hd : oe.data = .fields vs) {t0 : Addr} (h0 : vs[0]? = some (.ref t0)) (hz : rest.length ≤ sizeLine)
    (hq : Q .none ⟨(h.push { cls := .type "tuple", data := .seq rest.toArray }).update e (Obj.mapFields (·.setIfInBounds 0 (.ref h.objs.size))), g, d, t, os⟩) :
    wpAny (model prog w) A (call (.builtin "ValueError.__init__") (.ref e :: rest)) Q E ⟨h, g, d, t, os⟩ := by
  have FB := PySem.F.excBase_ValueError
  have he1 := Heap.get?_push_of_some (h := h) { cls := .type "tuple", data := .seq rest.toArray } he
  refine wpAny_call (codeAny_call_builtin FB.init.plain FB.initEntry (wpAny_check_init_subT FB T hC he hc ?_))
  wp_walk
  rw [hd]
  refine wpAny_pure ?_
  rw [h0]
  refine wpAny_pure (wpAny_bind (wpAny_setField he1 hd (Array.getElem?_eq_some_iff.mp h0).1 ?_))
  wp_walk
  exact hq
end
end L2

set_option Elab.async false
set_option linter.all false
set_option maxRecDepth 100000
set_option maxHeartbeats 2000000
namespace L2
open PySem PySem.Spec PyProof.Rows
open Builtin Builtin.ObjectAttr
section
variable {prog : Program} {w : World} {A : Around} {E : Value → Shared → Prop} {h : Heap} {g : Array GenState} {d : Drawn} {t : Nat} {os : OsState}
variable {nm qn : Str} {C RE N x : Addr} {bs : List Value} {sn : List Str} {sub : List Value} {ab : Bool} {col : Option Bool} {dd : Option Addr} {k0 k1 k2 k3 k5 : Option Value} {name : Str} {v : Value} {o : Obj} {vs : Array Value} {newId : String}
theorem sx_entry {tk : Tok} {Q : Fin → Shared → Prop} (hC : h.get? C = some (excClassObj nm qn C N bs (.ref RE :: mroV) true sn sub ab col dd k0 k1 k2 k3 k5 newId)) (hx : h.get? x = some o) (hc : o.cls = .ref C) (hdn : o.dict = none) (hd : o.data = .fields vs)
    (hl : PySem.W.Looks (model prog w) h (typeLookup (.ref C) name) none)
    (hq : ∀ h' tk', h'.Ns1 h.objs.size (fun y => if y = name then some v else none) → h'.get? x = some { o with dict := some h.objs.size } → (∀ b ob, b ≠ x → h.get? b = some ob → h'.get? b = some ob) → Q (.done (.ret .none)) ⟨h', g, d, tk', os⟩) :
    wpAny (model prog w) A (Builtin.«object.__setattr__» ⟨[.ref x, .str name tk, v], []⟩) Q E ⟨h, g, d, t, os⟩ := by
  have hp := (F.store_ValueError).passes (.ref x)
  unfold Builtin.«object.__setattr__»
  repeat (first
    | rw [refuse_eq]
    | (rw [refuseLoop_ref, refuseLoop_ref]; unfold mroV; rw [hp])
    | (with_reducible refine wpAny_loadPart_at hx ?_; rw [hc])
    | with_reducible refine wpAny_mroOf_exc hC ?_
    | with_reducible refine hl.at ?_
    | wp_step)
  rw [hdn]
  dsimp only
  rw [if_neg (show ¬ ((!true || !typeHasDict (Value.ref C)) = true) from by simp [typeHasDict]), hd]
  have xlt : x ≠ h.objs.size := Nat.ne_of_lt (Heap.lt_size hx)
  have hx1 : (h.push { cls := .type "dict", data := .dict #[] }).get? x = some o := Heap.get?_push_of_some _ hx
  refine wpAny_bind (wpAny_alloc' (wpAny_bind (wpAny_update' hx1 (wpAny_pure ?_))))
  have hD : ((h.push { cls := .type "dict", data := .dict #[] }).update x fun o => { cls := o.cls, dict := some h.objs.size, data := o.data, slots := o.slots }).get? h.objs.size = some { cls := .type "dict", data := .dict #[] } :=
    (Heap.get?_update_ne _ _ _ _ xlt.symm).trans (Heap.get?_push_at rfl rfl)
  have hE : ((h.push { cls := .type "dict", data := .dict #[] }).update x fun o => { cls := o.cls, dict := some h.objs.size, data := o.data, slots := o.slots }).Ns h.objs.size (fun _ => none) := by
    refine ⟨_, #[], _, hD, rfl, fun e z => ?_, fun _ => rfl⟩
    simp at z
  show wpAny (model prog w) A (storeInDict h.objs.size (.str name tk) name v) Q E _
  unfold storeInDict
  unfold newKeyGuard
  refine wpAny_bind (wpAny_pure ?_)
  refine wpAny_bind (wpAny_nsSet1 (Heap.Ns1.of_empty hE) ?_)
  intro h' n1 sb
  obtain ⟨oD, eD, pD, o1, o2, o3⟩ := n1.count (Within.cons name v Within.nil)
  refine wpAny_bind (wpAny_lookBehind o1 ?_ ?_)
  · rw [o2]
    exact pastItsLine_dict (Nat.le_trans o3 (Nat.succ_le_succ (Nat.zero_le _)))
  wp_walk
  refine hq h' _ ?_ ?_ ?_
  · obtain ⟨u1, u2, u3, e1, e2, e3, e5, e4⟩ := n1
    exact ⟨u1, u2, u3, e1, e2, e3, e5, fun y => by rw [e4 y]⟩
  · refine (sb.2 x xlt).trans (Heap.get?_update_self _ hx1 ?_)
    obtain ⟨c1, c2, c3, c4⟩ := o
    cases hd
    rfl
  · intro b ob hbx hob
    exact (sb.2 b (Nat.ne_of_lt (Heap.lt_size hob))).trans ((Heap.get?_update_ne _ _ _ _ hbx).trans (Heap.get?_push_of_some _ hob))
theorem sx_check {M : Model} {nameV : Value} {Q : Unit → Shared → Prop} (L : PySem.W.Looks M h (isInstance (.ref x) (.type "object")) true) (hq : Q () ⟨h, g, d, t, os⟩) : wpAny M A (checkBuiltinCall "object.__setattr__" ⟨[.ref x, nameV, v], []⟩) Q E ⟨h, g, d, t, os⟩ := by
  have SF := F.store_ValueError
  have ha := SF.args (.ref x) nameV v
  simp only [checkBuiltinCall, SF.kind, SF.split]
  refine wpAny_bind (L.at ?_)
  repeat (any_goals (first | assumption | wp_step))
theorem sx_attr {Q : Unit → Shared → Prop} (hC : h.get? C = some (excClassObj nm qn C N bs (.ref RE :: mroV) true sn sub ab col dd k0 k1 k2 k3 k5 newId)) (hx : h.get? x = some o) (hc : o.cls = .ref C) (hdn : o.dict = none) (hd : o.data = .fields vs)
    (hs : PySem.W.Looks (model prog w) h (typeLookup (.ref C) "__setattr__") (some (.builtin "object.__setattr__"))) (hl : PySem.W.Looks (model prog w) h (typeLookup (.ref C) name) none) (hm : PySem.W.Looks (model prog w) h (isSubtype (.ref C) (.type "object")) true)
    (hq : ∀ h' tk', h'.Ns1 h.objs.size (fun y => if y = name then some v else none) → h'.get? x = some { o with dict := some h.objs.size } → (∀ b ob, b ≠ x → h.get? b = some ob → h'.get? b = some ob) → Q () ⟨h', g, d, tk', os⟩) :
    wpAny (model prog w) A (setAttr (.ref x) name v) Q E ⟨h, g, d, t, os⟩ := by
  have SF := F.store_ValueError
  have f3 := SF.slot.bind (.ref x)
  have I : PySem.W.InstAt h x o C none := ⟨hx, hc, notCls_fields hd, by rw [hdn]; trivial⟩
  have L : PySem.W.Looks (model prog w) h (isInstance (.ref x) (.type "object")) true := (I.type (M := model prog w)).andThen hm
  unfold setAttr callSpecial? specialOf
  repeat (any_goals (first
    | assumption
    | (with_reducible refine wpAny_loadPart_at hx ?_; rw [hc])
    | with_reducible refine hs.at ?_
    | wp_step))
  refine codeAny_call_builtin SF.slot.plain SF.entry (sx_check L ?_)
  refine sx_entry hC hx hc hdn hd hl fun h' tk' a1 a2 a3 => ?_
  repeat (any_goals (first
    | assumption
    | wp_step))
  exact hq h' tk' a1 a2 a3
end
end L2

set_option Elab.async false
set_option linter.all false
set_option maxRecDepth 100000
set_option maxHeartbeats 2000000
namespace L2
open PySem PySem.Spec PyProof.Rows
noncomputable def exN (a : Addr) (c : Value) (od : Option Addr) : HO := .ext fun h => ∃ oe vs, h.get? a = some oe ∧ oe.cls = c ∧ oe.dict = od ∧ oe.data = .fields vs ∧ vs[1]? = some .none ∧ ∃ t0, vs[0]? = some (.ref t0)
theorem exN_ok {P : Program} {w : World} {H : Hp} {h : Heap} {a : Addr} {c : Value} {od : Option Addr} {oe : Obj} {vs : Array Value} {t0 : Addr} (e : h.get? a = some oe) (h1 : oe.cls = c) (h2 : oe.dict = od) (h3 : oe.data = .fields vs) (h4 : vs[1]? = some .none) (h5 : vs[0]? = some (.ref t0)) : ObjOk P w H h a (exN a c od) :=
  ⟨⟨oe, vs, e, h1, h2, h3, h4, t0, h5⟩, ⟨oe, e⟩, fun g1 g2 ⟨o1, v1, e1, r⟩ k => ⟨o1, v1, k _ e1, r⟩⟩
theorem exN_get {P : Program} {w : World} {H : Hp} {h : Heap} {a : Addr} {c : Value} {od : Option Addr} (x : HOk P w H h) (e : H a = some (exN a c od)) :
    ∃ oe vs, h.get? a = some oe ∧ oe.cls = c ∧ oe.dict = od ∧ oe.data = .fields vs ∧ vs[1]? = some .none ∧ ∃ t0, vs[0]? = some (.ref t0) := (x a _ e).1
structure XIni (K : PySem.W.Frag) (C RE fI : Addr) : Prop where
  cls : ∃ (nm qn : Str) (N : Addr) (bs : List Value) (sn : List Str) (sub : List Value) (ab : Bool) (col : Option Bool) (dd : Option Addr) (k0 k1 k2 k3 k5 : Option Value),
    K.lookup C = some (excClassObj nm qn C N bs (.ref RE :: mroV) true sn sub ab col dd k0 k1 k2 k3 k5 "ValueError.__new__")
  up : XCls K RE
  ini : PySem.W.findIn K (.ref C) "__init__" = some (some (.ref fI))
  fn : PySem.W.isFn K (.ref fI) = true
  kp : PySem.W.keepIn K (.ref C) = true
  sa : PySem.W.findIn K (.ref C) "__setattr__" = some (some (.builtin "object.__setattr__"))
  mo : PySem.W.subIn K (.ref C) (.type "object") = some true
  mb : PySem.W.subIn K (.ref C) (.type "BaseException") = some true
theorem XIni.tail {K : PySem.W.Frag} {C RE fI : Addr} {h : Heap} (x : XIni K C RE fI) (X : K.In h) : OwnTail h mroV (.ref RE :: mroV) := by
  obtain ⟨bm, N, nm, q, bs, hdct, sn, sub, ab, col, dd, k0, k1, k2, k3, k5, mN, hC, hN, hni, T⟩ := x.up.obj X
  exact .own hC hN hni .base
structure XSup (K : PySem.W.Frag) (RE : Addr) : Prop where
  ga : PySem.W.specialIn K (.ref RE) "__getattribute__" = some (some (.builtin "type.__getattribute__"))
  rd : PySem.W.readsIn K RE (.type "type") = true
  fc : PySem.W.findCls K (.ref RE) (.type "type") "__init__" = some (.val (.builtin "ValueError.__init__"))
theorem vinit_handed : PySem.W.handedIn (.builtin "ValueError.__init__") = true := by decide +kernel
section
variable {X : Cx} {C RE fI : Addr} {x : Str} {p np pos apos : Pos} {e : Expr} {es : List Expr} {t : TA}
noncomputable def tSup (C : Addr) (t : TA) : TE := fun σ H Q => t σ H fun vs H1 => ∃ a ys, vs = .ref a :: ys ∧ ys.length ≤ 1000 ∧ H1 a = some (exN a (.ref C) none) ∧ Q .non H1
theorem pe_sup {pl : Sem Bool} (hg : Gl X x) (hm : X.mg x = some (.ref RE)) (xs : XSup X.K RE) (xi : XIni X.K C RE fI) (ha : PA X (e :: es) t) (hdb : (x == ("__debug__" : Str)) = false := by decide)
    (hst : starEach (e :: es) X.env = (false, eval e X.env) :: starEach es X.env := by rfl) (hpl : (backTo pos (starEach es X.env)).any (·.1) = false := by rfl)
    (ht : eval (.Call (.Attribute (.Name x np) "__init__" apos) (e :: es) [] pos) X.env = (do
      let ov ← eval (.Name x np) X.env
      standAt apos.atName
      let (f, first) ← holding [ov] (getMethod ov "__init__" pl)
      callWith pos f first (backTo pos (starEach (e :: es) X.env)) (backToKw pos (keywordEach [] X.env))) := by rfl) :
    PE X (.Call (.Attribute (.Name x np) "__init__" apos) (e :: es) [] pos) (tSup C t) := by
  intro pins s σ H Q I h
  refine PySem.W.methodCall_KW (pl := pl) (ld_glob I hg hm ?_ hdb) ht
  refine PySem.W.method_cls I.kIn xs.ga (PySem.W.cls_value I.kIn xs.rd xs.fc vinit_handed ?_)
  refine PyProof.Rows.callWith_builtin1 (thn (ha pos pins _ σ H _ (I.tok _) h) fun us s1 ⟨vs, H1, I1, r1, a, ys, e1, hz, ea, q⟩ => ?_) hst hpl
  subst e1
  obtain ⟨nm, qn, N, bs, sn, sub, ab, col, dd, k0, k1, k2, k3, k5, hC⟩ := xi.cls
  obtain ⟨u0, l2, eu, ru, rr⟩ : ∃ u0 l2, us = u0 :: l2 ∧ RelV (.ref a) u0 ∧ Vals ys l2 := by
    cases r1 with
    | cons q1 q2 => exact ⟨_, _, rfl, q1, q2⟩
  subst eu
  cases (show u0 = Value.ref a from ru)
  have hl := rr.length
  obtain ⟨oe, ws, he, hc, hdc, hd, h4, t0, h5⟩ := exN_get I1.hok ea
  obtain ⟨hp, g, d, tk, os⟩ := s1
  refine call_vinit (xi.tail I1.kIn) (I1.kIn _ _ hC) he hc hd h5 (by have : (1000 : Nat) ≤ sizeLine := by decide
                                                                     lia) ?_
  have he1 := Heap.get?_push_of_some (h := hp) { cls := .type "tuple", data := .seq l2.toArray } he
  have hd1 := Obj.data_mapFields hd (·.setIfInBounds 0 (Value.ref hp.objs.size))
  have he2 := Heap.get?_update_self (Obj.mapFields (·.setIfInBounds 0 (Value.ref hp.objs.size))) he1 (Obj.isFreed_of_fields hd1)
  have hs0 : 0 < ws.size := (Array.getElem?_eq_some_iff.mp h5).1
  have J := I1.write (x := a) (e := a) (o := exN a (.ref C) none) (t' := tk) (by rw [ea]; trivial) (.inl rfl) (fun b u hb q => (Heap.get?_update_other _ _ (Ne.symm hb)).trans (Heap.get?_push_of_some _ q)) ⟨_, he2⟩
    (exN_ok he2 (by rw [Obj.cls_mapFields]; exact hc) (by rw [dict_mapFields]; exact hdc) hd1 (by rw [Array.getElem?_setIfInBounds_ne (by decide)]; exact h4) (t0 := hp.objs.size) (by simp [hs0]))
  rw [upd_id ea] at J
  exact ⟨.non, H1, J, rfl, q⟩
noncomputable def sXFld (C : Addr) (ta tv : TE) (f : Str) : TS := fun D σ H => tv σ H fun y H1 => ta σ H1 fun x H2 => ∃ a, x = .ref a ∧ H2 a = some (exN a (.ref C) none) ∧ ∀ dx, H2 dx = none → dx ≠ a → D.nx σ (upd (upd H2 a (exN a (.ref C) (some dx))) dx (.xd [(f, y)]))
theorem ps_xfld {o value : Expr} {ta tv : TE} {f : Str} {pos' : Pos} (xi : XIni X.K C RE fI) (hf : PySem.W.findIn X.K (.ref C) f = some none) (ha : PE X o ta) (hv : PE X value tv) (hs : swapsWith value (some (.Attribute o f pos')) pos.line X.env = pure false) : PS X (.Assign [.Attribute o f pos'] value pos) (sXFld C ta tv f) := by
  intro pins s σ H D I h
  refine plainObj_wpAny_Assign_Attribute (thn (hv pins s σ H _ I h) fun u s1 ⟨y, H1, I1, ry, q⟩ => thn (ha pins s1 σ H1 _ I1 q) fun ov s2 ⟨z, H2, I2, rx, a, ex, ea, q2⟩ => ?_) hs
  subst ex
  obtain rfl : ov = Value.ref a := rx
  obtain ⟨nm, qn, N, bs, sn, sub, ab, col, dd, k0, k1, k2, k3, k5, hC⟩ := xi.cls
  obtain ⟨oe, ws, he, hc, hdc, hd, h4, t0, h5⟩ := exN_get I2.hok ea
  have X2 := I2.kIn
  obtain ⟨hp, g, d, tk, os⟩ := s2
  have hn : H2 hp.objs.size = none := I2.hok.fresh (Nat.le_refl _)
  have hna : hp.objs.size ≠ a := Nat.ne_of_gt (Heap.lt_size he)
  refine sx_attr (X2 _ _ hC) he hc hdc hd (PySem.W.looks_findIn X2 xi.sa) (PySem.W.looks_findIn X2 hf) (PySem.W.looks_subIn X2 xi.mo) fun h' tk' n1 x1 kp => ?_
  have na : ∀ b, H2 b = none → b ≠ a := fun b z e => by rw [e, ea] at z; cases z
  have J : Inv X pins σ (upd (upd H2 a (exN a (.ref C) (some hp.objs.size))) hp.objs.size (.xd [(f, y)])) ⟨h', g, d, tk', os⟩ := by
    refine I2.un (h' := h') (t' := tk') ⟨fun b ob e n _ _ => kp b ob (na b n) e, fun b ob e n _ _ => ⟨ob.slots, kp b ob (na b n) e⟩, fun b ob e n _ => ?_, fun b ob e _ => ?_, fun b xs e => ?_, fun b ob xs e => ?_, fun b ps e => ⟨#[], ?_⟩⟩ (fun b u e => ?_)
    · rw [upd_ne (Nat.ne_of_lt (Heap.lt_size e)), upd_ne (na b n)]; exact n
    · by_cases z : b = a
      · subst z; exact ⟨_, x1⟩
      · exact ⟨ob, kp b ob z e⟩
    · rw [upd_ne (ne_of_none e hn), upd_ne (fun z => by rw [z, ea] at e; cases e)]; exact e
    · rw [upd_ne (ne_of_none e hn), upd_ne (fun z => by rw [z, ea] at e; cases e)]; exact e
    · rw [upd_ne (ne_of_none e hn), upd_ne (fun z => by rw [z, ea] at e; cases e), e]; simp
    · by_cases z : b = hp.objs.size
      · subst z
        rw [upd_same] at e; cases e
        refine ⟨_, n1, fun k => ?_⟩
        by_cases q : k = f
        · subst q
          rw [if_pos rfl, List.lookup_cons]
          simp only [beq_self_eq_true]
          exact ry
        · rw [if_neg q, List.lookup_cons]
          have : (k == f) = false := by simpa using q
          rw [this]
          trivial
      · rw [upd_ne z] at e
        by_cases z2 : b = a
        · subst z2
          rw [upd_same] at e; cases e
          exact exN_ok x1 hc rfl hd h4 h5
        · rw [upd_ne z2] at e
          refine (I2.hok b u e).stay (fun c v hc q => kp c v ?_ q) (fun c q => ?_) fun c xs q => ?_
          · rcases hc with rfl | hc
            · exact z2
            · rintro rfl
              rw [ea] at hc; cases hc
          · rw [upd_ne (ne_of_none q hn), upd_ne (fun z => by rw [z, ea] at q; cases q)]; exact q
          · rw [upd_ne (ne_of_none q hn), upd_ne (fun z => by rw [z, ea] at q; cases q)]; exact q
  exact ⟨σ, _, J, q2 hp.objs.size hn hna⟩
end
end L2

set_option Elab.async false
set_option linter.all false
set_option maxRecDepth 100000
set_option maxHeartbeats 2000000
namespace L2
open PySem PySem.Spec PyProof.Rows
theorem raise_any {M : Model} {A : Around} {E : Value → Shared → Prop} {env : Env} {s : Shared} {x : Sem Value} {C : Addr} {Q : Flow → Shared → Prop} (hh : A.handled = none)
    (h : wpAny M A x (fun v s₁ => ∃ e oe vs, v = .ref e ∧ s₁.heap.get? e = some oe ∧ oe.cls = .ref C ∧ oe.data = .fields vs ∧ vs[1]? = some .none ∧ PySem.W.Looks M s₁.heap (isSubtype (.ref C) (.type "BaseException")) true ∧ (∃ oC, s₁.heap.get? C = some oC ∧ oC.cls = .type "type") ∧ E (.ref e) s₁) E s) :
    wpAny M A (raiseStmt env (some x) none) Q E s := by
  unfold raiseStmt
  refine wpAny_bind (wpAny_mono h (fun v s₁ z => ?_) fun _ _ y => y)
  obtain ⟨e, oe, vs, rfl, he, hc, hd, h1, L, ⟨oC, hC, hcC⟩, hE⟩ := z
  obtain ⟨hp, g, d, tk, os⟩ := s₁
  obtain ⟨c, dct, dt, sl⟩ := oe
  dsimp only at hc hd
  subst hc hd
  repeat (first
    | with_reducible refine wpAny_loadPart_at he ?_
    | (with_reducible refine wpAny_loadPart_at hC ?_; rw [hcC])
    | with_reducible refine L.at ?_
    | with_reducible refine wpAny_field he rfl h1 ?_
    | wp_step)
  exact wpAny_raiseNew_none hh hE
section
variable {X : Cx} {k : Nat} {C RE fI : Addr} {fd : FuncData} {ps : List Str} {sp : Sp} {W : St → XK} {x : Str} {p np pos cpos : Pos} {e : Expr} {es : List Expr} {t : TA}
noncomputable def tXMake (C : Addr) (sp : Sp) (t : TA) : TE := fun σ H Q => t σ H fun vs H1 => vs.length ≤ sizeLine ∧ ∀ a, H1 a = none → sp (.ref a :: vs) (upd H1 a (exN a (.ref C) none)) (fun v H2 => v = .non ∧ Q (.ref a) H2) E0
theorem pe_xmake (xi : XIni X.K C RE fI) (F : FnOk X.prog X.w X.K X.mg X.base CX0 k fI fd ps sp) (hr : Room (k + 1) X.A) (hb : Binds X.K fd ps []) (hm : X.mg x = some (.ref C)) (ha : PA X (e :: es) t) (hg : Gl X x := by rfl)
    (hdb : (x == ("__debug__" : Str)) = false := by decide) (he : starEach (e :: es) X.env = (false, eval e X.env) :: starEach es X.env := by rfl) (hpl : (backTo pos (starEach es X.env)).any (·.1) = false := by rfl) :
    PE X (.Call (.Name x p) (e :: es) [] pos) (tXMake C sp t) := by
  intro pins s σ H Q I h
  refine wpAny_Call_Name_kw (ld_glob I hg hm ?_ hdb)
  refine PySem.W.callWith_K (h₀ := X.base) I.ok.mod.kin xi.kp (thn (ha pos pins s σ H _ I h) fun us s1 ⟨vs, H1, I1, r, z, q⟩ => ⟨I1.kIn, ?_⟩) he hpl
  obtain ⟨nm, qn, N, bs, sn, sub, ab, col, dd, k0, k1, k2, k3, k5, hC⟩ := xi.cls
  have hf : ∃ oI, X.K.lookup fI = some oI ∧ oI.cls = .type "function" := by
    have z := beq_iff_eq.mp xi.fn
    exact Option.map_eq_some_iff.mp z
  obtain ⟨oI, hoI, hfc⟩ := hf
  have X1 := I1.kIn
  obtain ⟨hp, g, d, tk, os⟩ := s1
  have mk := newEx_made (C := C) (rest := us) (h := hp)
  have hn : H1 (hp.objs.size + 1) = none := I1.hok.fresh (Nat.le_succ _)
  have I2 : Inv X pins σ (upd H1 (hp.objs.size + 1) (exN (hp.objs.size + 1) (.ref C) none)) ⟨newEx C us hp, g, d, tk, os⟩ :=
    I1.un (h' := newEx C us hp) (t' := tk) (Un.laidN mk.keeps mk.new hn) (I1.hok.laidN mk.keeps mk.new (exN_ok newEx_at rfl rfl rfl rfl rfl))
  have hq := q (hp.objs.size + 1) hn
  have r2 : Vals (V.ref (hp.objs.size + 1) :: vs) (Value.ref (hp.objs.size + 1) :: us) := .cons rfl r
  have hl : (Value.ref (hp.objs.size + 1) :: us).length = ps.length := by rw [← r2.length]; exact F.len _ _ _ _ hq
  have hb' := hb ⟨newEx C us hp, g, d, tk, os⟩ (Value.ref (hp.objs.size + 1) :: us) I2.kIn (by rw [List.append_nil]; exact hl)
  rw [List.append_nil] at hb'
  refine call_ini (xi.tail X1) (X1 _ _ hC) (PySem.W.looks_findIn X1 xi.ini) (X1 _ _ hoI) hfc ?_ (by show us.length ≤ sizeLine; rw [← r.length]; exact z)
  refine wpAny_call (codeAny_mono (F.run _ X.stack _ _ ⟨Value.ref (hp.objs.size + 1) :: us, []⟩ (Value.ref (hp.objs.size + 1) :: us) _ _ E0 (hr.make C us []) (I2.env0.make C us []) hb' r2 hq) fun rs s' hq' => ?_)
  cases rs with
  | error e => exact False.elim hq'
  | ok fl =>
    cases fl with
    | ret u =>
      obtain ⟨v, H', I3, rv, ev, q3⟩ := I2.after hq'
      subst ev
      exact ⟨rv, ⟨V.ref (hp.objs.size + 1), H', I3, rfl, q3⟩⟩
    | next => exact False.elim hq'
    | brk => exact False.elim hq'
    | cont => exact False.elim hq'
noncomputable def tRaiseI (W : St → XK) (C : Addr) (sp : Sp) (t : TA) : TS := fun _ σ H => tXMake C sp t σ H fun v H2 => ∃ a od, v = .ref a ∧ H2 a = some (exN a (.ref C) od) ∧ W σ (.ref C) od (upd H2 a (exO a (.ref C) od))
theorem ps_raiseI (hx : Lets X W) (hc : X.calm = true) (xi : XIni X.K C RE fI) (F : FnOk X.prog X.w X.K X.mg X.base CX0 k fI fd ps sp) (hr : Room (k + 1) X.A) (hb : Binds X.K fd ps []) (hm : X.mg x = some (.ref C)) (ha : PA X (e :: es) t) (hg : Gl X x := by rfl)
    (hdb : (x == ("__debug__" : Str)) = false := by decide) (he : starEach (e :: es) X.env = (false, eval e X.env) :: starEach es X.env := by rfl) (hpl : (backTo cpos (starEach es X.env)).any (·.1) = false := by rfl) :
    PS X (.Raise (some (.Call (.Name x np) (e :: es) [] cpos)) none pos) (tRaiseI W C sp t) := by
  intro pins s σ H D I h
  have pe := pe_xmake (p := np) (pos := cpos) xi F hr hb hm ha hg hdb he hpl pins s σ H _ I h
  rw [arm_exec_Raise]
  have fin : ∀ v s₃, EP X pins σ (fun v H2 => ∃ a od, v = .ref a ∧ H2 a = some (exN a (.ref C) od) ∧ W σ (.ref C) od (upd H2 a (exO a (.ref C) od))) v s₃ →
      ∃ e oe vs, v = .ref e ∧ s₃.heap.get? e = some oe ∧ oe.cls = .ref C ∧ oe.data = .fields vs ∧ vs[1]? = some .none ∧ PySem.W.Looks (model X.prog X.w) s₃.heap (isSubtype (.ref C) (.type "BaseException")) true ∧ (∃ oC, s₃.heap.get? C = some oC ∧ oC.cls = .type "type") ∧ X.xe (.ref e) s₃ := by
    rintro v s₃ ⟨v', H2, I3, rv, a, od, rfl, ea, hw⟩
    cases (show v = Value.ref a from rv)
    obtain ⟨oe, ws, h1, h2, h3, h4, h5, t0, h6⟩ := exN_get I3.hok ea
    refine ⟨a, oe, ws, rfl, h1, h2, h4, h5, PySem.W.looks_subIn I3.kIn xi.mb, ?_, hx _ _ ⟨σ, _, _, a, .ref C, od, rfl, ?_, upd_same, Xt.refl _, .inl ⟨oe, ws, h1, h4, h5⟩, hw⟩⟩
    · obtain ⟨nm, qn, N, bs, sn, sub, ab, col, dd, k0, k1, k2, k3, k5, hC⟩ := xi.cls
      exact ⟨_, I3.kIn _ _ hC, rfl⟩
    have J := I3.write (x := a) (e := a) (o := exO a (.ref C) od) (t' := s₃.toks) (h' := s₃.heap) (by rw [ea]; trivial) (.inl rfl) (fun b u _ q => q) ⟨_, h1⟩ (exO_ok h1 h2 h3 h4 (Array.getElem?_eq_some_iff.mp h5).1)
    exact J.pins_of fun p z => absurd z (by simp)
  first
    | refine wpAny_bind (wpAny_standAt (raise_any (C := C) (I.ok.hd hc) (wpAny_bind (wpAny_mono pe (fun v s₃ z => wpAny_bind (wpAny_standAt (wpAny_pure (fin v s₃ z)))) fun _ _ y => y))))
    | (simp only [evalOpt, Option.map]; refine wpAny_bind (wpAny_standAt (raise_any (C := C) (I.ok.hd hc) (wpAny_bind (wpAny_mono pe (fun v s₃ z => wpAny_bind (wpAny_standAt (wpAny_pure (fin v s₃ z)))) fun _ _ y => y)))))
end
end L2

set_option Elab.async false
set_option linter.all false
set_option maxRecDepth 100000
set_option maxHeartbeats 2000000
namespace L2
open PySem PySem.Spec PyProof.Rows
section
variable {X : Cx}
end
end L2

set_option linter.all false
namespace Cw
noncomputable def Undone (rs : Rows) (cs : List Nat) (o : Pl) : Prop := Has rs o ∧ ∃ c, cs[o.1]? = some c ∧ c ≤ o.2
noncomputable def Ahead (rs : Rows) (cs : List Nat) (o o' : Pl) : Prop := (∃ c, cs[o.1]? = some c ∧ c < o.2 ∧ o' = (o.1, o.2 - 1)) ∨ (∃ c e e', cs[o.1]? = some c ∧ c = o.2 ∧ at? rs o.1 o.2 = some e ∧ at? rs o'.1 o'.2 = some e' ∧ e'.k = .send ∧ e'.l = e.l)
theorem Step.irr {rs : Rows} {o : Pl} : ¬ Step rs o o := by
  rintro ⟨_, _, ⟨_, h⟩ | ⟨e, f, h1, h2, h3, h4, _⟩⟩
  · lia
  · rw [h1] at h2; cases h2
    rw [h3] at h4; cases h4
theorem stuck_take {rs : Rows} {cs : List Nat} {h c : Nat} {e : Ev} (st : Stuck rs cs) (hc : cs[h]? = some c) (he : at? rs h c = some e) : e.k = .take := by
  by_cases q : e.k = .take
  · exact q
  · exact absurd (fun z => absurd z q) (st h c e hc he)
theorem Ahead.step {rs : Rows} {cs : List Nat} {o o' : Pl} (rc : Reach rs cs) (st : Stuck rs cs) (u : Undone rs cs o) (a : Ahead rs cs o o') : Undone rs cs o' ∧ Step rs o' o := by
  obtain ⟨⟨e0, he0⟩, c0, hc0, hle⟩ := u
  rcases a with ⟨c, hc, hlt, rfl⟩ | ⟨c, e, e', hc, rfl, he, he', hk, hl⟩
  · obtain ⟨r, hr, hp⟩ := at_some he0
    have hlen := (List.getElem?_eq_some_iff.mp hp).1
    have hh : Has rs (o.1, o.2 - 1) := ⟨r[o.2 - 1]'(by lia), by
      show at? rs o.1 (o.2 - 1) = _
      rw [at_row hr]; exact List.getElem?_eq_getElem _⟩
    refine ⟨⟨hh, c, hc, by show c ≤ o.2 - 1; lia⟩, hh, ⟨e0, he0⟩, .inl ⟨rfl, by show o.2 - 1 + 1 = o.2; lia⟩⟩
  · have tk := stuck_take st hc he
    have hh : Has rs o' := ⟨e', he'⟩
    refine ⟨⟨hh, ?_⟩, hh, ⟨e, he⟩, .inr ⟨e', e, he', he, hk, tk, hl.symm⟩⟩
    obtain ⟨r, hr, _⟩ := at_some he'
    have hlt : o'.1 < cs.length := by rw [rc.len]; exact (List.getElem?_eq_some_iff.mp hr).1
    refine ⟨cs[o'.1], List.getElem?_eq_getElem hlt, ?_⟩
    by_cases q : cs[o'.1] ≤ o'.2
    · exact q
    · exact absurd (fun _ => ⟨o'.1, o'.2, _, e', he', hk, hl, List.getElem?_eq_getElem hlt, by lia⟩) (st o.1 o.2 e hc he)
noncomputable def RingL (rs : Rows) (l : List Pl) : Prop := 2 ≤ l.length ∧ (∀ o ∈ l, Has rs o) ∧ (∀ (k : Nat) (a b : Pl), l[k]? = some a → l[(k + 1) % l.length]? = some b → Step rs a b) ∧ l.Nodup
structure Back (rs : Rows) (W : List Pl) (cur : Pl) : Prop where
  nd : W.Nodup
  has : ∀ o ∈ W, Has rs o
  here : Has rs cur
  ch : ∀ (i : Nat) (a b : Pl), W[i]? = some a → W[i + 1]? = some b → Step rs b a
  last : ∀ a, W[W.length - 1]? = some a → Step rs cur a
theorem Back.zero {rs : Rows} {o : Pl} (h : Has rs o) : Back rs [] o := ⟨List.nodup_nil, fun o z => (nomatch z), h, fun i a b e => by simp at e, fun a e => by simp at e⟩
theorem Back.snoc {rs : Rows} {W : List Pl} {cur o' : Pl} (b : Back rs W cur) (hn : cur ∉ W) (s : Step rs o' cur) : Back rs (W ++ [cur]) o' := by
  refine ⟨?_, fun o ho => ?_, s.1, fun i x y hx hy => ?_, fun x hx => ?_⟩
  · refine List.nodup_append.mpr ⟨b.nd, by simp, fun x hx y hy => ?_⟩
    rintro rfl
    have : x = cur := by simpa using hy
    exact hn (this ▸ hx)
  · rcases List.mem_append.mp ho with q | q
    · exact b.has o q
    · have : o = cur := by simpa using q
      rw [this]; exact b.here
  · by_cases q : i + 1 < W.length
    · rw [List.getElem?_append_left (by lia)] at hx
      rw [List.getElem?_append_left q] at hy
      exact b.ch i x y hx hy
    · by_cases q2 : i + 1 = W.length
      · rw [List.getElem?_append_right (by lia)] at hy
        have e : i + 1 - W.length = 0 := by lia
        rw [e] at hy
        have hy : cur = y := by simpa using hy
        subst hy
        rw [List.getElem?_append_left (by lia)] at hx
        exact b.last x (by rw [show W.length - 1 = i by lia]; exact hx)
      · rw [List.getElem?_eq_none (by rw [List.length_append]; simp; lia)] at hy
        cases hy
  · have e : (W ++ [cur]).length - 1 = W.length := by simp
    rw [e, List.getElem?_append_right (Nat.le_refl _), Nat.sub_self] at hx
    have hx : cur = x := by simpa using hx
    subst hx
    exact s
theorem rev_nd {α : Type} {l : List α} (h : l.Nodup) : l.reverse.Nodup := by
  refine List.pairwise_reverse.mpr (List.Pairwise.imp (fun q => Ne.symm q) h)
theorem Back.ring {rs : Rows} {W : List Pl} {cur : Pl} {j : Nat} (b : Back rs W cur) (hj : W[j]? = some cur) : RingL rs (W.drop j).reverse := by
  have hjl : j < W.length := (List.getElem?_eq_some_iff.mp hj).1
  have hlen : (W.drop j).reverse.length = W.length - j := by rw [List.length_reverse, List.length_drop]
  have get : ∀ k, k < W.length - j → (W.drop j).reverse[k]? = W[W.length - 1 - k]? := fun k hk => by
    rw [List.getElem?_reverse (by rw [List.length_drop]; exact hk), List.length_drop, List.getElem?_drop]
    congr 1
    lia
  have hlast : ∃ a, W[W.length - 1]? = some a := ⟨W[W.length - 1]'(by lia), List.getElem?_eq_getElem _⟩
  have two : 2 ≤ W.length - j := by
    by_cases q : 2 ≤ W.length - j
    · exact q
    · have e : j = W.length - 1 := by lia
      rw [e] at hj
      exact absurd (b.last cur hj) Step.irr
  refine ⟨by rw [hlen]; exact two, fun o ho => b.has o ?_, fun k x y hx hy => ?_, rev_nd (b.nd.sublist (List.drop_sublist _ _))⟩
  · exact List.mem_of_mem_drop (List.mem_reverse.mp ho)
  · have hk : k < W.length - j := by
      have := (List.getElem?_eq_some_iff.mp hx).1
      rw [hlen] at this; exact this
    rw [get k hk] at hx
    rw [hlen] at hy
    by_cases q : k + 1 < W.length - j
    · rw [Nat.mod_eq_of_lt q, get _ q] at hy
      have e : W.length - 1 - k = (W.length - 1 - (k + 1)) + 1 := by lia
      rw [e] at hx
      exact b.ch _ y x hy hx
    · have e : k + 1 = W.length - j := by lia
      rw [e, Nat.mod_self, get 0 (by lia), Nat.sub_zero] at hy
      rw [show W.length - 1 - k = j by lia, hj] at hx
      cases hx
      exact b.last y hy
end Cw

set_option linter.all false
namespace Cw
structure OrdTo (rs : Rows) (cs : List Nat) (rk : Nat → Nat → Nat) (n : Nat) : Prop where
  lt : ∀ (h p c : Nat), cs[h]? = some c → p < c → rk h p < n
  row : ∀ (h p c : Nat), cs[h]? = some c → p + 1 < c → rk h p < rk h (p + 1)
  sent : ∀ (h p c : Nat) (e : Ev), cs[h]? = some c → p < c → at? rs h p = some e → e.k = .take → ∃ (h' p' c' : Nat) (e' : Ev), at? rs h' p' = some e' ∧ e'.k = .send ∧ e'.l = e.l ∧ rk h' p' < rk h p ∧ cs[h']? = some c' ∧ p' < c'
theorem Reach.ord {rs : Rows} {cs : List Nat} (r : Reach rs cs) : ∃ rk n, OrdTo rs cs rk n := by
  induction r with
  | zero =>
    have z : ∀ (h c : Nat), (rs.map fun _ => 0)[h]? = some c → c = 0 := fun h c e => by
      rw [List.getElem?_map] at e
      obtain ⟨_, _, q⟩ := Option.map_eq_some_iff.mp e
      exact q.symm
    exact ⟨fun _ _ => 0, 0, fun h p c e q => by have := z h c e; lia, fun h p c e q => by have := z h c e; lia, fun h p c e' e q => by have := z h c e; lia⟩
  | @step cs h c e _ hc he fr ih =>
    obtain ⟨rk, n, o⟩ := ih
    have hl : h < cs.length := (List.getElem?_eq_some_iff.mp hc).1
    have get : ∀ (j d : Nat), (cs.set h (c + 1))[j]? = some d → (j = h ∧ d = c + 1) ∨ (j ≠ h ∧ cs[j]? = some d) := fun j d q => by
      by_cases z : j = h
      · subst z
        rw [List.getElem?_set_self hl] at q
        cases q
        exact .inl ⟨rfl, rfl⟩
      · rw [List.getElem?_set_ne (Ne.symm z)] at q
        exact .inr ⟨z, q⟩
    refine ⟨fun j p => if j = h ∧ p = c then n else rk j p, n + 1, fun j p d q hp => ?_, fun j p d q hp => ?_, fun j p d e' q hp hat hk => ?_⟩
    · show (if j = h ∧ p = c then n else rk j p) < n + 1
      split
      · lia
      · rename_i z
        rcases get j d q with ⟨rfl, rfl⟩ | ⟨z2, q2⟩
        · have := o.lt j p c hc (by have : p ≠ c := fun y => z ⟨rfl, y⟩
                                    lia)
          lia
        · have := o.lt j p d q2 hp
          lia
    · show (if j = h ∧ p = c then n else rk j p) < (if j = h ∧ p + 1 = c then n else rk j (p + 1))
      rcases get j d q with ⟨rfl, rfl⟩ | ⟨z2, q2⟩
      · rw [if_neg (by lia)]
        by_cases y : p + 1 = c
        · rw [if_pos ⟨rfl, y⟩]
          exact o.lt j p c hc (by lia)
        · rw [if_neg (fun w => y w.2)]
          exact o.row j p c hc (by lia)
      · rw [if_neg (fun w => z2 w.1), if_neg (fun w => z2 w.1)]
        exact o.row j p d q2 hp
    · have up : ∀ (i d : Nat), cs[i]? = some d → ∃ d', (cs.set h (c + 1))[i]? = some d' ∧ d ≤ d' := fun i d qq => by
        by_cases z : i = h
        · subst z
          rw [hc] at qq; cases qq
          exact ⟨c + 1, List.getElem?_set_self hl, Nat.le_succ _⟩
        · exact ⟨d, by rw [List.getElem?_set_ne (Ne.symm z)]; exact qq, Nat.le_refl _⟩
      show ∃ (h' p' c' : Nat) (e2 : Ev), at? rs h' p' = some e2 ∧ e2.k = .send ∧ e2.l = e'.l ∧ (if h' = h ∧ p' = c then n else rk h' p') < (if j = h ∧ p = c then n else rk j p) ∧ (cs.set h (c + 1))[h']? = some c' ∧ p' < c'
      have old : ∀ (h' p' d' : Nat), cs[h']? = some d' → p' < d' → ¬ (h' = h ∧ p' = c) := fun h' p' d' q q2 ⟨w1, w2⟩ => by
        rw [w1, hc] at q; cases q
        lia
      by_cases y : j = h ∧ p = c
      · obtain ⟨y1, y2⟩ := y
        rw [y1, y2, he] at hat; cases hat
        obtain ⟨h', p', d', e2, a1, a2, a3, a4, a5⟩ := fr hk
        obtain ⟨d2, b1, b2⟩ := up h' d' a4
        refine ⟨h', p', d2, e2, a1, a2, a3, ?_, b1, by lia⟩
        rw [if_neg (old h' p' d' a4 a5), if_pos ⟨y1, y2⟩]
        exact o.lt h' p' d' a4 a5
      · have hp2 : ∃ d2, cs[j]? = some d2 ∧ p < d2 := by
          rcases get j d q with ⟨z1, z2⟩ | ⟨z2, q2⟩
          · refine ⟨c, by rw [z1]; exact hc, ?_⟩
            have : p ≠ c := fun w => y ⟨z1, w⟩
            lia
          · exact ⟨d, q2, hp⟩
        obtain ⟨d2, q2, hp2⟩ := hp2
        obtain ⟨h', p', c', e2, a1, a2, a3, a4, a5, a6⟩ := o.sent j p d2 e' q2 hp2 hat hk
        obtain ⟨d3, b1, b2⟩ := up h' c' a5
        refine ⟨h', p', d3, e2, a1, a2, a3, ?_, b1, by lia⟩
        rw [if_neg (old h' p' c' a5 a6), if_neg y]
        exact a4
theorem Reach.all {rs : Rows} {cs : List Nat} (r : Reach rs cs) (h : ∀ (h : Nat) (r : List Ev), rs[h]? = some r → cs[h]? = some r.length) : ∃ rk, Ord rs rk := by
  obtain ⟨rk, n, o⟩ := r.ord
  refine ⟨rk, fun j p e q => ?_, fun j p e q k => ?_⟩
  · obtain ⟨row, hr, he⟩ := at_some q
    exact o.row j p _ (h j row hr) (List.getElem?_eq_some_iff.mp he).1
  · obtain ⟨row, hr, he⟩ := at_some q
    obtain ⟨h', p', c', e', a1, a2, a3, a4, _, _⟩ := o.sent j p _ e (h j row hr) (List.getElem?_eq_some_iff.mp he).1 q k
    exact ⟨h', p', e', a1, a2, a3, a4⟩
theorem Ord.noRing {rs : Rows} {rk : Nat → Nat → Nat} (o : Ord rs rk) (us : Uniq .send rs) {l : List Pl} : ¬ RingL rs l := by
  rintro ⟨h2, _, hs, _⟩
  have step : ∀ a b : Pl, Step rs a b → rk a.1 a.2 < rk b.1 b.2 := by
    rintro a b ⟨_, ⟨f0, hf0⟩, ⟨e1, e2⟩ | ⟨e, f, h1, h3, h4, h5, h6⟩⟩
    · rw [← e1, ← e2]
      have : at? rs a.1 (a.2 + 1) = some f0 := by rw [e1, e2]; exact hf0
      exact o.row _ _ _ this
    · obtain ⟨h', p', e', q1, q2, q3, q4⟩ := o.sent _ _ _ h3 h5
      obtain ⟨w1, w2⟩ := us h' p' a.1 a.2 e' e q1 h1 q2 h4 (q3.trans h6)
      rw [w1, w2] at q4
      exact q4
  have up : ∀ k : Nat, ∀ a b : Pl, l[0]? = some a → l[k]? = some b → rk a.1 a.2 + k ≤ rk b.1 b.2 := by
    intro k
    induction k with
    | zero => intro a b ha hb; rw [ha] at hb; cases hb; exact Nat.le_refl _
    | succ k ih =>
      intro a b ha hb
      have hk : k + 1 < l.length := (List.getElem?_eq_some_iff.mp hb).1
      have hc : l[k]? = some (l[k]'(by lia)) := List.getElem?_eq_getElem _
      have := ih a _ ha hc
      have s := hs k _ b hc (by rw [Nat.mod_eq_of_lt hk]; exact hb)
      have := step _ _ s
      lia
  have h0 : l[0]? = some (l[0]'(by lia)) := List.getElem?_eq_getElem _
  have hl : l[l.length - 1]? = some (l[l.length - 1]'(by lia)) := List.getElem?_eq_getElem _
  have u := up _ _ _ h0 hl
  have s := hs (l.length - 1) _ _ hl (by rw [show l.length - 1 + 1 = l.length by lia, Nat.mod_self]; exact h0)
  have := step _ _ s
  lia
end Cw

set_option Elab.async false
set_option linter.all false
set_option maxRecDepth 100000
set_option maxHeartbeats 4000000
namespace Cw
open PySem L2
inductive sp_undoneP (vs : List V) (H : Hp) (Q : VK) (x_3 : XK) : Prop
  | mk (a : Addr) (sd : Addr) (c : Addr) (t : Addr) (ps : List Addr) (rs : Rows) (cs : List Nat) (o : Pl) (h_0 : vs = [.ref a, .ref sd, .ref c, .ref t]) (h_1 : RowsA H a ps rs) (h_2 : SendsA H sd rs) (h_3 : Uniq .send rs) (h_4 : Sent rs) (h_5 : H c = some (.lst (csV cs))) (h_6 : Stuck rs cs) (h_7 : H t = some (.tup (posV o))) (h_8 : Undone rs cs o) (h_9 : ∀ (t' : Addr) (o' : Pl) (H' : Hp), Same H H' → H' t' = some (.tup (posV o')) → Ahead rs cs o o' → Q (.ref t') H')
noncomputable def sp_undone : Sp := fun vs H Q x_3 => sp_undoneP vs H Q x_3
inductive sp_rbackP (vs : List V) (H : Hp) (Q : VK) (x_3 : XK) : Prop
  | mk (a : Addr) (sd : Addr) (c : Addr) (t : Addr) (ps : List Addr) (rs : Rows) (cs : List Nat) (o : Pl) (h_0 : vs = [.ref a, .ref sd, .ref c, .ref t]) (h_1 : RowsA H a ps rs) (h_2 : Bnd rs) (h_3 : SendsA H sd rs) (h_4 : Uniq .send rs) (h_5 : Sent rs) (h_6 : H c = some (.lst (csV cs))) (h_7 : Reach rs cs) (h_8 : Stuck rs cs) (h_9 : H t = some (.tup (posV o))) (h_10 : Undone rs cs o) (h_11 : ∀ (f : Addr) (l : List Pl) (H' : Hp), Same H H' → H f = none → EvsA H' f l → RingL rs l → Q (.ref f) H')
noncomputable def sp_rback : Sp := fun vs H Q x_3 => sp_rbackP vs H Q x_3
inductive sp_ringRP (vs : List V) (H : Hp) (Q : VK) (x_3 : XK) : Prop
  | mk (a : Addr) (sd : Addr) (ps : List Addr) (rs : Rows) (h_0 : vs = [.ref a, .ref sd]) (h_1 : RowsA H a ps rs) (h_2 : Bnd rs) (h_3 : SendsA H sd rs) (h_4 : Uniq .send rs) (h_5 : Sent rs) (h_6 : (∀ H' cs, Same H H' → Reach rs cs → (∀ (h : Nat) (r : List Ev), rs[h]? = some r → cs[h]? = some r.length) → Q .non H')) (h_7 : ∀ (f : Addr) (l : List Pl) (H' : Hp), Same H H' → H f = none → EvsA H' f l → RingL rs l → Q (.ref f) H')
noncomputable def sp_ringR : Sp := fun vs H Q x_3 => sp_ringRP vs H Q x_3
structure RingC (K : PySem.W.Frag) (RE RI fI : Addr) : Prop where
  sup : XSup K RE
  ini : XIni K RI RE fI
  ev : PySem.W.findIn K (.ref RI) "events" = some none
inductive sp_ringP (RI : Addr) (vs : List V) (H : Hp) (Q : VK) (x_3 : XK) : Prop
  | mk (e : Addr) (l : Addr) (xs : List V) (h_0 : vs = [.ref e, .ref l]) (h_1 : H e = some (exN e (.ref RI) none)) (h_2 : H l = some (.lst xs)) (h_3 : e ≠ l) (h_4 : ∀ (dx l2 : Addr) (H' : Hp), Kept (fun b => b = e) H H' → H' e = some (exN e (.ref RI) (some dx)) → H' dx = some (.xd [("events", .ref l2)]) → H' l2 = some (.lst xs) → H dx = none → H l2 = none → Q .non H')
noncomputable def sp_ring (RI : Addr) : Sp := fun vs H Q x_3 => sp_ringP RI vs H Q x_3
theorem back_len {rs : Rows} {W : List Pl} (b : Bnd rs) (nd : W.Nodup) (h : ∀ o ∈ W, Has rs o) : W.length ≤ 24 := by
  have gen : ∀ (W E : List Pl), W.Nodup → (∀ o ∈ W, o ∈ E) → W.length ≤ E.length := by
    intro W
    induction W with
    | nil => intro E _ _; exact Nat.zero_le _
    | cons x W ih =>
      intro E nd hs
      obtain ⟨n1, n2⟩ := List.nodup_cons.mp nd
      have hx := hs x List.mem_cons_self
      have := ih (E.erase x) n2 fun o ho => (List.mem_erase_of_ne (by rintro rfl; exact n1 ho)).mpr (hs o (List.mem_cons_of_mem _ ho))
      have l := List.length_erase_of_mem hx
      have : 0 < E.length := List.length_pos_of_mem hx
      rw [List.length_cons]
      lia
  exact Nat.le_trans (gen W (evs rs) nd fun o ho => mem_evs'.mpr (h o ho)) (evs_len b)
end Cw
namespace Cw
open PySem L2
theorem cut_back {xs : List V} {k : Nat} (h : k ≤ xs.length) : cutV xs (some ((k : Nat) : Int)) none = xs.drop k := by
  unfold cutV
  rw [HT.sIx_nat, Nat.min_eq_left h]
  show (xs.drop k).take (xs.length - k) = xs.drop k
  exact List.take_of_length_le (by rw [List.length_drop]; exact Nat.le_refl _)
theorem Paired.dropP {α β : Type} {F : α → β → Prop} : ∀ {xs : List α} {ys : List β} (k : Nat), Paired F xs ys → Paired F (xs.drop k) (ys.drop k)
  | _, _, 0, h => h
  | _, _, k + 1, .nil => .nil
  | _, _, k + 1, .cons h t => Paired.dropP k t
theorem Paired.rev {α β : Type} {F : α → β → Prop} : ∀ {xs : List α} {ys : List β}, Paired F xs ys → Paired F xs.reverse ys.reverse
  | _, _, .nil => .nil
  | _, _, .cons h t => by
    rw [List.reverse_cons, List.reverse_cons]
    exact Paired.app (Paired.rev t) (.cons h .nil)
theorem first_at {W : List Pl} {cur : Pl} (nd : W.Nodup) (h : cur ∈ W) : ∃ j : Nat, W[j]? = some cur ∧ (W.map posV)[j]? = some (posV cur) ∧ ∀ i : Nat, i < j → (W.map posV)[i]? ≠ some (posV cur) := by
  obtain ⟨j, hj⟩ := List.getElem?_of_mem h
  refine ⟨j, hj, by rw [List.getElem?_map, hj]; rfl, fun i hi z => ?_⟩
  rw [List.getElem?_map] at z
  obtain ⟨o, ho, e⟩ := Option.map_eq_some_iff.mp z
  have := posV_inj e
  subst this
  obtain ⟨a1, a2⟩ := List.getElem?_eq_some_iff.mp ho
  obtain ⟨b1, b2⟩ := List.getElem?_eq_some_iff.mp hj
  have := (List.getElem_inj nd).mp (a2.trans b2.symm)
  lia
end Cw
namespace Cw
open PySem L2
end Cw

set_option Elab.async false
set_option linter.all false
set_option maxRecDepth 100000
set_option maxHeartbeats 2000000
namespace L2
open PySem PySem.Spec PyProof.Rows
section
variable {prog : Program} {w : World} {A : Around} {E : Value → Shared → Prop} {h : Heap} {g : Array GenState} {d : Drawn} {t : Nat} {os : OsState} {a C l : Addr} {ox : Obj} {od : Option Obj} {K : PySem.W.Frag} {name : Str}
end
section
variable {X : Cx} {e : Expr} {f : Str} {pos : Pos} {ta : TE}
end
end L2
namespace Cw
open PySem L2
theorem iteP {c A B : Prop} [Decidable c] (hc : c) (h : A) : if decide c = true then A else B := by
  rw [decide_eq_true hc]
  exact iteT h
theorem iteN {c A B : Prop} [Decidable c] (hc : ¬ c) (h : B) : if decide c = true then A else B := by
  rw [decide_eq_false hc]
  exact iteF h
end Cw

set_option linter.all false
namespace Cw
noncomputable def Ready (rs : Rows) (W : List Pl) (o : Pl) : Prop := Has rs o ∧ (o.2 = 0 ∨ (o.1, o.2 - 1) ∈ W) ∧ ∀ e, at? rs o.1 o.2 = some e → e.k = .take → ∃ s, s ∈ W ∧ ∃ e', at? rs s.1 s.2 = some e' ∧ e'.k = .send ∧ e'.l = e.l
theorem Ready.mono {rs : Rows} {W V : List Pl} {o : Pl} (h : Ready rs W o) (m : ∀ x ∈ W, x ∈ V) : Ready rs V o :=
  ⟨h.1, h.2.1.elim .inl fun q => .inr (m _ q), fun e q k => let ⟨s, a, b⟩ := h.2.2 e q k; ⟨s, m _ a, b⟩⟩
inductive DoneL (rs : Rows) : List Pl → Prop where
  | nil : DoneL rs []
  | snoc {W : List Pl} {o : Pl} : DoneL rs W → o ∉ W → Ready rs W o → DoneL rs (W ++ [o])
theorem DoneL.nd {rs : Rows} {W : List Pl} (d : DoneL rs W) : W.Nodup := by
  induction d with
  | nil => exact List.nodup_nil
  | @snoc W o _ hn _ ih =>
    refine List.nodup_append.mpr ⟨ih, by simp, fun x hx y hy => ?_⟩
    rintro rfl
    have : x = o := by simpa using hy
    exact hn (this ▸ hx)
theorem DoneL.has {rs : Rows} {W : List Pl} (d : DoneL rs W) : ∀ o ∈ W, Has rs o := by
  induction d with
  | nil => intro o z; cases z
  | @snoc W o _ hn r ih =>
    intro x hx
    rcases List.mem_append.mp hx with q | q
    · exact ih x q
    · have : x = o := by simpa using q
      rw [this]; exact r.1
structure OrdL (rs : Rows) (W : List Pl) (rk : Pl → Nat) (n : Nat) : Prop where
  lt : ∀ o ∈ W, rk o < n
  row : ∀ o ∈ W, o.2 ≠ 0 → (o.1, o.2 - 1) ∈ W ∧ rk (o.1, o.2 - 1) < rk o
  sent : ∀ o ∈ W, ∀ e, at? rs o.1 o.2 = some e → e.k = .take → ∃ s, s ∈ W ∧ rk s < rk o ∧ ∃ e', at? rs s.1 s.2 = some e' ∧ e'.k = .send ∧ e'.l = e.l
theorem DoneL.ordL {rs : Rows} {W : List Pl} (d : DoneL rs W) : ∃ rk n, OrdL rs W rk n := by
  induction d with
  | nil => exact ⟨fun _ => 0, 0, fun o z => (nomatch z), fun o z => (nomatch z), fun o z => (nomatch z)⟩
  | @snoc W o _ hn r ih =>
    obtain ⟨rk, n, c⟩ := ih
    have ne : ∀ x ∈ W, x ≠ o := fun x hx z => hn (z ▸ hx)
    have old : ∀ x ∈ W, (if x = o then n else rk x) = rk x := fun x hx => if_neg (ne x hx)
    have split : ∀ x ∈ W ++ [o], x ∈ W ∨ x = o := fun x hx => (List.mem_append.mp hx).elim .inl fun q => .inr (by simpa using q)
    refine ⟨fun x => if x = o then n else rk x, n + 1, fun x hx => ?_, fun x hx h0 => ?_, fun x hx e he hk => ?_⟩
    · show (if x = o then n else rk x) < n + 1
      rcases split x hx with q | q
      · rw [old x q]; have := c.lt x q; lia
      · rw [if_pos q]; lia
    · show (x.1, x.2 - 1) ∈ W ++ [o] ∧ (if (x.1, x.2 - 1) = o then n else rk (x.1, x.2 - 1)) < (if x = o then n else rk x)
      rcases split x hx with q | q
      · obtain ⟨a, b⟩ := c.row x q h0
        rw [old x q, old _ a]
        exact ⟨List.mem_append_left _ a, b⟩
      · subst q
        have a : (x.1, x.2 - 1) ∈ W := r.2.1.resolve_left h0
        rw [if_pos rfl, old _ a]
        exact ⟨List.mem_append_left _ a, c.lt _ a⟩
    · show ∃ s, s ∈ W ++ [o] ∧ (if s = o then n else rk s) < (if x = o then n else rk x) ∧ ∃ e', at? rs s.1 s.2 = some e' ∧ e'.k = .send ∧ e'.l = e.l
      rcases split x hx with q | q
      · obtain ⟨s, a, b, w⟩ := c.sent x q e he hk
        exact ⟨s, List.mem_append_left _ a, by rw [old x q, old s a]; exact b, w⟩
      · subst q
        obtain ⟨s, a, w⟩ := r.2.2 e he hk
        exact ⟨s, List.mem_append_left _ a, by rw [if_pos rfl, old s a]; exact c.lt s a, w⟩
theorem DoneL.all {rs : Rows} {W : List Pl} (d : DoneL rs W) (h : ∀ o, Has rs o → o ∈ W) : ∃ rk, Ord rs rk := by
  obtain ⟨rk, n, c⟩ := d.ordL
  refine ⟨fun j p => rk (j, p), fun j p e q => ?_, fun j p e q k => ?_⟩
  · have := (c.row (j, p + 1) (h _ ⟨e, q⟩) (by show p + 1 ≠ 0; lia)).2
    exact this
  · obtain ⟨s, _, b, e', w1, w2, w3⟩ := c.sent (j, p) (h _ ⟨e, q⟩) e q k
    exact ⟨s.1, s.2, e', w1, w2, w3, b⟩
theorem Ord.next {rs : Rows} {rk : Nat → Nat → Nat} (o : Ord rs rk) {W : List Pl} : ∀ (n : Nat) (x : Pl), rk x.1 x.2 < n → Has rs x → x ∉ W → ∃ y, y ∉ W ∧ Ready rs W y
  | 0, x, h, _, _ => by lia
  | n + 1, x, h, hx, hn => by
    obtain ⟨e, he⟩ := id hx
    by_cases q1 : x.2 = 0 ∨ (x.1, x.2 - 1) ∈ W
    · by_cases q2 : e.k = .take
      · obtain ⟨h', p', e', a1, a2, a3, a4⟩ := o.sent x.1 x.2 e he q2
        by_cases q3 : (h', p') ∈ W
        · refine ⟨x, hn, hx, q1, fun e2 he2 k2 => ⟨(h', p'), q3, e', a1, a2, ?_⟩⟩
          rw [he] at he2; cases he2; exact a3
        · exact Ord.next o n (h', p') (by show rk h' p' < n; lia) ⟨e', a1⟩ q3
      · refine ⟨x, hn, hx, q1, fun e2 he2 k2 => ?_⟩
        rw [he] at he2; cases he2
        exact absurd k2 q2
    · have q3 : x.2 ≠ 0 := fun z => q1 (.inl z)
      have q4 : (x.1, x.2 - 1) ∉ W := fun z => q1 (.inr z)
      have e1 : x.2 = x.2 - 1 + 1 := by lia
      have hlt : rk x.1 (x.2 - 1) < rk x.1 x.2 := by
        have hat : at? rs x.1 (x.2 - 1 + 1) = some e := by rw [← e1]; exact he
        have := o.row x.1 (x.2 - 1) e hat
        rw [← e1] at this
        exact this
      obtain ⟨r, hr, hre⟩ := at_some he
      have hl := (List.getElem?_eq_some_iff.mp hre).1
      have hh : Has rs (x.1, x.2 - 1) := ⟨r[x.2 - 1]'(by lia), by
        show at? rs x.1 (x.2 - 1) = _
        rw [at_row hr]; exact List.getElem?_eq_getElem _⟩
      exact Ord.next o n (x.1, x.2 - 1) (by show rk x.1 (x.2 - 1) < n; lia) hh q4
end Cw

set_option linter.all false
namespace Cw
section
variable {rs : Rows} {h i : Nat} {r : List Ev} {e : Ev}
end
theorem ends_more {rs : Rows} {W W' : List Pl} (d : DoneL rs W) (d' : DoneL rs W') (sub : ∀ x ∈ W, x ∈ W') (all : ∀ o, Has rs o → Ready rs W o → o ∈ W') {rk : Nat → Nat → Nat} (o : Ord rs rk) (lt : W.length < (evs rs).length) : W.length < W'.length := by
  have len : ∀ (A E : List Pl), A.Nodup → (∀ o ∈ A, o ∈ E) → A.length ≤ E.length := by
    intro A
    induction A with
    | nil => intro E _ _; exact Nat.zero_le _
    | cons x A ih =>
      intro E nd hs
      obtain ⟨n1, n2⟩ := List.nodup_cons.mp nd
      have hx := hs x List.mem_cons_self
      have := ih (E.erase x) n2 fun o ho => (List.mem_erase_of_ne (by rintro rfl; exact n1 ho)).mpr (hs o (List.mem_cons_of_mem _ ho))
      have l := List.length_erase_of_mem hx
      have : 0 < E.length := List.length_pos_of_mem hx
      rw [List.length_cons]
      lia
  -- one that is not done
  have ex : ∃ x, x ∈ evs rs ∧ x ∉ W := by
    apply Classical.byContradiction
    intro z
    have : ∀ x ∈ evs rs, x ∈ W := fun x hx => Classical.byContradiction fun w => z ⟨x, hx, w⟩
    have := len (evs rs) W (evsFrom_nodup 0 rs) this
    lia
  obtain ⟨x, hx, hn⟩ := ex
  obtain ⟨y, hy, hR⟩ := o.next (W := W) (rk x.1 x.2 + 1) x (by lia) (mem_evs'.mp hx) hn
  have := len (y :: W) W' (List.nodup_cons.mpr ⟨hy, d.nd⟩) fun z hz => by
    rcases List.mem_cons.mp hz with rfl | hz
    · exact all _ hR.1 hR
    · exact sub _ hz
  rw [List.length_cons] at this
  lia
theorem ends_iff {rs : Rows} {W : List Pl} (d : DoneL rs W) (h : (∃ rk, Ord rs rk) → (evs rs).length ≤ W.length) : W.length = (evs rs).length ↔ ∃ rk, Ord rs rk := by
  have len : ∀ (A E : List Pl), A.Nodup → (∀ o ∈ A, o ∈ E) → A.length ≤ E.length ∧ (A.length = E.length → ∀ o ∈ E, o ∈ A) := by
    intro A
    induction A with
    | nil => exact fun E _ _ => ⟨Nat.zero_le _, fun e o ho => by rw [List.eq_nil_of_length_eq_zero e.symm] at ho; cases ho⟩
    | cons x A ih =>
      intro E nd hs
      obtain ⟨n1, n2⟩ := List.nodup_cons.mp nd
      have hx := hs x List.mem_cons_self
      obtain ⟨h1, h2⟩ := ih (E.erase x) n2 fun o ho => (List.mem_erase_of_ne (by rintro rfl; exact n1 ho)).mpr (hs o (List.mem_cons_of_mem _ ho))
      have l := List.length_erase_of_mem hx
      have : 0 < E.length := List.length_pos_of_mem hx
      rw [List.length_cons]
      refine ⟨by lia, fun e o ho => ?_⟩
      by_cases q : o = x
      · rw [q]; exact List.mem_cons_self
      · exact List.mem_cons_of_mem _ (h2 (by lia) o ((List.mem_erase_of_ne q).mpr ho))
  obtain ⟨h1, h2⟩ := len W (evs rs) d.nd fun o ho => mem_evs'.mpr (d.has o ho)
  constructor
  · intro e
    exact d.all fun o ho => h2 e o (mem_evs'.mpr ho)
  · intro o
    have := h o
    lia
end Cw

set_option Elab.async false
set_option linter.all false
set_option maxRecDepth 100000
set_option maxHeartbeats 4000000
namespace Cw
open PySem L2
theorem asg_mid {te : TE} {i : Nat} {r : TS} {D : Ends} {σ : St} {H : Hp} (P : Bool → Hp → Prop) (h1 : ∀ R : VK, (∀ g H6, P g H6 → R (.bl g) H6) → te σ H R) (h2 : ∀ g H6, P g H6 → r D (σ.set i (some (.bl g))) H6) : tSeq (tAsg te (gName i)) r D σ H := h1 _ fun g H6 p => h2 g H6 p
structure ExcG (K : PySem.W.Frag) (mg : Str → Option Value) (C RE RI : Addr) : Prop where
  m_RecordError : mg "RecordError" = some (.ref RE)
  m_Ring : mg "Ring" = some (.ref RI)
  m_Record : mg "Record" = some (.ref C)
  root : XRoot K RE
  a_Ring : XAt K RI
  s_Ring : PySem.W.subIn K (.ref RI) (.ref RE) = some true
  k_Ring : PySem.W.kitOne K (.ref RI) (.ref RI) = some true
  h_Ring : PySem.W.hasDictIn K RI = true
  n_events : NoAttr K RI "events"
  r_cl : PySem.W.findIn K (.ref C) "__class__" = some (some (.builtin "object.__class__"))
  r_sp : PySem.W.specialIn K (.builtin "object.__class__") "__get__" = some (some (.builtin "getset_descriptor.__get__"))
  r_tk : PySem.W.takesIn K (.builtin "object.__class__") = some true
  r_mo : PySem.W.mroIn K C (.type "object") = some true
  r_it : PySem.W.kitOne K (.ref C) (.ref C) = some true
inductive sp_endsP (vs : List V) (H : Hp) (Q : VK) : Prop
  | mk (a : Addr) (ps : List Addr) (rs : Rows) (h0 : vs = [.ref a]) (h1 : RowsA H a ps rs) (h2 : Bnd rs) (h3 : Uniq .send rs) (h4 : Sent rs) (q : ∀ (b : Bool) (H' : Hp), Same H H' → (b = true ↔ ∃ rk, Ord rs rk) → Q (.bl b) H')
noncomputable def sp_ends : Sp := fun vs H Q _ => sp_endsP vs H Q
end Cw

set_option Elab.async false
set_option linter.all false
set_option maxRecDepth 100000
set_option maxHeartbeats 2000000
namespace L2
open PySem PySem.Spec PyProof.Rows
section
variable {prog : Program} {w : World} {A : Around} {R : Result → Shared → Prop} {s : Shared}
theorem compLoop_anyR {E1 : Value → Shared → Prop} {elt target iter : Expr} {ifs : List Expr} {scope : Scope} {pos : Pos} {it acc : Value} {env : Env} (hE : ∀ x s', E1 x s' → notedBy (model prog w) A env (fun x s'' => R (.error x) s'') x s') (I : Nat → Shared → Prop)
    (turn : ∀ n s, I n s → wpAny (model prog w) A (pyNext it) (fun r s₁ => match r with
      | none => R (.ok .next) s₁
      | some v => wpAny (model prog w) A (letOwnedTupleGo target it v) (fun _ s₀ => wpAny (model prog w) A (assign target env v) (fun _ s₂ =>
          wpAny (model prog w) A (forIn ifs true fun c r => if r = true then do let ok ← isTrue c env (eval c env); pure (ForInStep.yield ok) else pure (ForInStep.yield r)) (fun ok s₃ =>
            if ok = true then wpAny (model prog w) A (eval elt env) (fun x s₄ =>
              wpAny (model prog w) A (call (.builtin "list.append") [acc, x]) (fun _ s₅ => ∃ m, m < n ∧ I m s₅) E1 s₄) E1 s₃
            else ∃ m, m < n ∧ I m s₃) E1 s₂) E1 s₀) (fun _ _ => False) s₁) (fun _ _ => False) s)
    (n : Nat) (h : I n s) :
    codeAny (model prog w) A (.compLoop (.ListComp elt [⟨target, iter, ifs, 0⟩] scope pos) 0 it acc env) R s := by
  refine codeAny_loop rfl I (fun n s hI => ?_) n h
  show wpAny _ A ((compTurn (.ListComp elt [⟨target, iter, ifs, 0⟩] scope pos) 0 it acc env).onRaise (fun x => do noteFrame x env; theTreesLotGoes x)) _ _ s
  refine wpAny_noted ?_
  rw [compTurn_list]
  refine wpAny_bind (wpAny_standAt (wpAny_bind (wpAny_mono (turn n s hI) (fun r s₁ h₁ => ?_) fun _ _ h' => h'.elim)))
  cases r with
  | none => exact wpAny_pure h₁
  | some v =>
    refine wpAny_bind (wpAny_mono h₁ (fun _ s₀ h₀ => ?_) fun _ _ h' => h'.elim)
    refine wpAny_bind (wpAny_mono h₀ (fun _ s₂ h₂ => wpAny_bind (wpAny_mono h₂ (fun ok s₃ h₃ => ?_) fun _ _ h' => hE _ _ h')) fun _ _ h' => hE _ _ h')
    cases ok with
    | false => exact wpAny_pure ⟨rfl, h₃⟩
    | true =>
      exact wpAny_bind (wpAny_bind (wpAny_mono h₃ (fun x s₄ h₄ => wpAny_bind (wpAny_mono h₄ (fun _ s₅ h₅ => wpAny_pure (wpAny_pure ⟨rfl, h₅⟩)) fun _ _ h' => hE _ _ h')) fun _ _ h' => hE _ _ h'))
end
noncomputable abbrev Cx.blkR (X : Cx) (E0 : XK) (scope : Scope) (cl : List (Str × Addr)) (ts : List Str) (cap : Cap) (C : Addr) (s : Shared) (H : Hp) (fp : List Addr) : Cx :=
  (X.blk scope cl ts cap C s H fp).wish fun e s' => Thrown (X.blk scope cl ts cap C s H fp) (fun _ => E0) e s'
theorem lets_blk {X : Cx} {E0 : XK} {scope : Scope} {cl : List (Str × Addr)} {ts : List Str} {cap : Cap} {C : Addr} {s : Shared} {H : Hp} {fp : List Addr} : Lets (X.blkR E0 scope cl ts cap C s H fp) (fun _ => E0) := by
  rintro e s' ⟨σ, H₁, H2, a, c, od, rfl, I, r⟩
  exact ⟨σ, H₁, H2, a, c, od, rfl, I.unwish, r⟩
section
variable {X : Cx} {scope : Scope} {ts : List Str} {cap : Cap} {cl : List (Str × Addr)} {tg elt iter : Expr} {ifs : List Expr} {wi : TI} {g : TG} {tt : TT} {te : TE} {pos : Pos}
theorem run_blkR {E0 : XK} (B : Blk X scope ts cap cl) (hc : X.calm = true) (hg : ∀ C s H fp, PG (X.blkR E0 scope cl ts cap C s H fp) tg g) (ht : ∀ C s H fp, PIfs (X.blkR E0 scope cl ts cap C s H fp) ifs tt) (he : ∀ C s H fp, PE (X.blkR E0 scope cl ts cap C s H fp) elt te)
    {pins : List (Addr × Obj)} {s : Shared} {σ : St} {H : Hp} {E : Value → Shared → Prop} {it : Addr} {fp : List Addr} {tn : Nat → Heap → Prop} {J : It} {Q : VK} {RR : Value → Addr → Result → Shared → Prop} (I : Inv X pins σ H s) (T : Turn X.prog X.w X.K tg J fp it tn) (st : tn 0 s.heap) (hf : ∀ b ∈ fp, FpOk X pins H b)
    (hw : ∀ D, H D = none → ∃ W : Nat → Nat → St → List V → Hp → Prop,
      (∃ m, W 0 m (List.replicate ts.length none ++ capV cap σ) [] (upd H D (.lst []))) ∧ ∀ i m σ' ys H2, W i m σ' ys H2 →
        (J.stop i H2 ∧ Q (.ref D) H2) ∨ (J.go i H2 ∧ ∃ N : St → List V → Hp → Prop, (∀ σ ys H, N σ ys H → ∃ m', m' < m ∧ W (i + 1) m' σ ys H) ∧ ∀ x H3, J.yld i H2 x H3 → g x σ' H3 fun σ4 H4 => tt σ4 H4 fun b H5 =>
          if b = true then te σ4 H5 fun y H6 => H6 D = some (.lst ys) ∧ ys.length < sizeLine ∧ N σ4 (ys ++ [y]) (upd H6 D (.lst (ys ++ [y])))
          else N σ4 ys H5))
    (hRR : ∀ (pl : List (Addr × Obj)) (σ' : St) (H' : Hp) (s' : Shared), Inv (X.blk scope cl ts cap (s.heap.objs.size + 1) s H fp) pl σ' H' s' → Q (.ref s.heap.objs.size) H' → RR (.ref s.heap.objs.size) (s.heap.objs.size + 1) (.ok .next) s')
    (hEE : ∀ e s', Thrown (X.blk scope cl ts cap (s.heap.objs.size + 1) s H fp) (fun _ => E0) e s' → notedBy (model X.prog X.w) X.A (compEnvC scope cl (s.heap.objs.size + 1) X.env) (fun x s'' => RR (.ref s.heap.objs.size) (s.heap.objs.size + 1) (.error x) s'') e s') :
    wpAny (model X.prog X.w) X.A (newList []) (fun acc s₃ => wpAny (model X.prog X.w) X.A (newFunctionEnv scope X.env.globals cl [] X.env.qual none .none (some X.env)) (fun cenv s₄ =>
      codeAny (model X.prog X.w) X.A (.compStart (.ListComp elt [⟨tg, iter, ifs, 0⟩] scope pos) 0 (.ref it) acc { cenv with scope := relabel scope X.env }) (RR acc cenv.locals) s₄) E s₃) E s := by
  have hlt : ∀ b ∈ fp, b < s.heap.objs.size := fun b hb => by
    obtain ⟨o, e, _⟩ := T.obj _ _ st b hb
    exact Heap.lt_size e
  refine wpAny_newObj_type (wpAny_newFunctionEnv B.ncell (by intro y hy; simp at hy) (fun h₁ hns₁ hsb₁ => ?_) B.kind)
  dsimp only at hns₁ hsb₁ ⊢
  have hz : (s.heap.push { cls := .type "list", dict := none, data := .seq ([] : List Value).toArray }).objs.size = s.heap.objs.size + 1 := Heap.size_push ..
  rw [hz] at hns₁ hsb₁ ⊢
  have keep : ∀ b o, b ≠ s.heap.objs.size + 1 → (s.heap.push { cls := .type "list", dict := none, data := .seq ([] : List Value).toArray }).get? b = some o → h₁.get? b = some o := fun b o hb e => hsb₁.extBut b o hb (Heap.get?_push_of_some _ e)
  have old : ∀ b o, s.heap.get? b = some o → h₁.get? b = some o := fun b o e => keep b o (Nat.ne_of_lt (Nat.lt_succ_of_lt (Heap.lt_size e))) (Heap.get?_push_of_some _ e)
  have hD : h₁.get? s.heap.objs.size = some { cls := .type "list", data := .seq #[] 0 } := keep _ _ (Nat.ne_of_lt (Nat.lt_succ_self _)) (Heap.get?_push_size _ rfl)
  have fD : H s.heap.objs.size = none := I.hok.fresh (Nat.le_refl _)
  obtain ⟨W, ⟨m0, w0⟩, turn⟩ := hw s.heap.objs.size fD
  have I0 := (blk_inv (t' := s.toks + ([] : List (Str × Value)).length) B I hf hlt hns₁ old hD).wish (fun e s' => Thrown (X.blk scope cl ts cap (s.heap.objs.size + 1) s H fp) (fun _ => E0) e s')
  have st0 : tn 0 h₁ := T.keep _ _ _ st fun b hb o e => old b o e
  have stat : ∀ {H' : Hp}, (∀ b ∈ fp, H' b = none) → ∀ b ∈ fp, FpOk (X.blkR E0 scope cl ts cap (s.heap.objs.size + 1) s H fp) [] H' b := fun hn b hb =>
    ⟨hn b hb, Nat.ne_of_lt (Nat.lt_succ_of_lt (hlt b hb)), fun z => by
      rcases List.mem_cons.mp (I.stkSub b z) with e | e
      · exact (hf b hb).2.1 e
      · exact (hf b hb).2.2.1 e, .inl hb, fun x c e => (hf b hb).2.2.2.2.1 x c (B.sub x c e), fun p hp => by simp [Cx.blkR, Cx.wish, Cx.blk] at hp⟩
  have fr0 : ∀ b ∈ fp, (upd H s.heap.objs.size (.lst [])) b = none := fun b hb => by rw [upd_ne (Nat.ne_of_lt (hlt b hb))]; exact (hf b hb).1
  have loop : ∀ s₃ : Shared, s₃ = { s with heap := h₁, toks := s.toks + ([] : List (Str × Value)).length } →
      codeAny (model X.prog X.w) X.A (.compLoop (.ListComp elt [⟨tg, iter, ifs, 0⟩] scope pos) 0 (.ref it) (.ref s.heap.objs.size) (compEnvC scope cl (s.heap.objs.size + 1) X.env)) (RR (.ref s.heap.objs.size) (s.heap.objs.size + 1)) s₃ := by
    rintro s₃ rfl
    refine compLoop_anyR (E1 := fun e s' => Thrown (X.blk scope cl ts cap (s.heap.objs.size + 1) s H fp) (fun _ => E0) e s') hEE (fun n s' => ∃ i σ' ys H', Inv (X.blkR E0 scope cl ts cap (s.heap.objs.size + 1) s H fp) [] σ' H' s' ∧ tn i s'.heap ∧ (∀ b ∈ fp, H' b = none) ∧ W i n σ' ys H') ?_ m0 ⟨0, _, [], _, I0, st0, fr0, w0⟩
    rintro n s3 ⟨i, σ3, ys, H3, I3, st3, fr3, w3⟩
    rcases turn i n σ3 ys H3 w3 with ⟨stop, qn⟩ | ⟨go, N, hN, step⟩
    · refine thn (T.done (X.blkR E0 scope cl ts cap (s.heap.objs.size + 1) s H fp) rfl rfl rfl hc i [] s3 σ3 H3 (fun _ _ => False) I3 (stat fr3) st3 stop) fun r s4 z_ => ?_
      obtain ⟨hr, I4⟩ := z_
      subst hr
      exact hRR _ _ _ _ I4.unwish qn
    · refine thn (T.item (X.blkR E0 scope cl ts cap (s.heap.objs.size + 1) s H fp) rfl rfl rfl hc i [] s3 σ3 H3 (fun _ _ => False) I3 (stat fr3) st3 go) fun r s4 z_ => ?_
      obtain ⟨u, hr, h4⟩ := z_
      subst hr
      refine thn h4 fun _ s5 z_ => ?_
      obtain ⟨x, H5, I5, r5, y5, st5, fr5⟩ := z_
      have I5' := I5.pinned (stat fr5) (T.obj _ _ st5)
      refine thn (hg _ _ _ _ _ s5 σ3 H5 x u _ I5' r5 (step x H5 y5)) fun _ s6 z_ => ?_
      obtain ⟨σ6, H6, I6, q6⟩ := z_
      refine thn (ht _ _ _ _ _ s6 σ6 H6 _ I6 q6) fun b s7 z_ => ?_
      obtain ⟨H7, I7, q7⟩ := z_
      have again : ∀ {σ8 : St} {H8 : Hp} {s8 : Shared} {m : Nat} {zs : List V}, Inv (X.blkR E0 scope cl ts cap (s.heap.objs.size + 1) s H fp) ([] ++ pinsAt fp s5.heap) σ8 H8 s8 → m < n → W (i + 1) m σ8 zs H8 → ∃ m, m < n ∧ ∃ i σ' ys H', Inv (X.blkR E0 scope cl ts cap (s.heap.objs.size + 1) s H fp) [] σ' H' s8 ∧ tn i s8.heap ∧ (∀ b ∈ fp, H' b = none) ∧ W i m σ' ys H' := fun {σ8 H8 s8 m zs} I8 hm w8 => by
        refine ⟨m, hm, i + 1, σ8, zs, H8, I8.unpinned, T.keep _ _ _ st5 fun b hb o e => (I8.pin (b, o) (List.mem_append_right _ (List.mem_append_right _ (mem_pinsAt hb e)))).1, fun b hb => ?_, w8⟩
        obtain ⟨o, e, d⟩ := T.obj _ _ st5 b hb
        exact (I8.pin (b, o) (List.mem_append_right _ (List.mem_append_right _ (mem_pinsAt hb e)))).2.1
      cases b with
      | false =>
        obtain ⟨m', hm, w7⟩ := hN _ _ _ q7
        exact again I7 hm w7
      | true =>
        rw [if_pos rfl]
        refine thn (he _ _ _ _ _ s7 σ6 H7 _ I7 q7) fun v s8 z_ => ?_
        obtain ⟨y, H8, I8, r8, hD8, hz8, n8⟩ := z_
        obtain ⟨m', hm, w8⟩ := hN _ _ _ n8
        refine thn (mt_append _ s8 σ6 H8 (.ref s.heap.objs.size) [y] (.ref s.heap.objs.size) [v] (fun _ H9 => H9 = upd H8 s.heap.objs.size (.lst (ys ++ [y]))) I8 rfl (.cons r8 .nil) ⟨_, _, _, rfl, rfl, hD8, hz8, rfl⟩) fun z s9 z_ => ?_
        obtain ⟨_, H9, I9, _, e9⟩ := z_
        subst e9
        exact again I9 hm w8
  exact codeAny_compStart_list (loop _ rfl) (T.self _ 0 _ _ _ st0 (loop _ rfl))


theorem pe_lcR {E0 : XK} (l : Lets X fun _ => E0) (hst : X.stack = X.env :: X.outer) (B : Blk X scope ts cap cl) (hc : X.calm = true) (hi : PI X tg iter wi) (hg : ∀ C s H fp, PG (X.blkR E0 scope cl ts cap C s H fp) tg g) (ht : ∀ C s H fp, PIfs (X.blkR E0 scope cl ts cap C s H fp) ifs tt) (he : ∀ C s H fp, PE (X.blkR E0 scope cl ts cap C s H fp) elt te)
    (hs : ∀ x, foldedSetIterable iter X.env x = pure x := by intro _; rfl) : PE X (.ListComp elt [⟨tg, iter, ifs, 0⟩] scope pos) (tLC wi ts.length cap g tt te) := by
  intro pins s σ H Q I h
  rw [eval_ListComp]
  refine wpAny_comprehension_free (use := none) rfl hs B.clos B.kind B.names (thn (hi pins s σ H _ I h) fun v s1 h1 => thn h1 fun itv s2 h2 => ?_)
  obtain ⟨it, fp, tn, J, H2, e, I2, T, st2, f2, hw⟩ := h2
  subst e
  refine run_blkR (E0 := E0) (RR := fun acc C => compPost (model X.prog X.w) X.A X.xe none (EP X pins σ Q) acc C) B hc hg ht he I2 T st2 f2 hw ?_ ?_
  · intro pl σ' H' s' I' q
    obtain ⟨m, hn, _⟩ := I'.loc
    exact ⟨m, hn, fun h' hs' => ⟨.ref s2.heap.objs.size, H', blk_out I2 f2 I' hs', rfl, q⟩⟩
  · rintro e s' ⟨σ', H₁, H3, a, c, od, rfl, I', ha, xt, fl, q⟩
    have IX : Inv X pins σ H3 s' := blk_out I2 f2 I' (Heap.SameBut.refl _ _)
    obtain ⟨m, hn, _⟩ := I'.loc
    have hn : s'.heap.Ns (s2.heap.objs.size + 1) m := hn
    obtain ⟨oC, es, ep, hC, hCd, hk⟩ := id hn
    have nC : H3 (s2.heap.objs.size + 1) = none := I'.free
    have nL : s2.heap.objs.size + 1 ≠ X.env.locals := Nat.ne_of_gt (Nat.lt_succ_of_lt I2.lt)
    have nF : s2.heap.objs.size + 1 ∉ X.fs := I2.nofs (Nat.le_succ _)
    have IP : Inv X [(s2.heap.objs.size + 1, oC)] σ H3 s' := IX.pins_of fun p hp => by
      rw [List.mem_singleton.mp hp]
      exact ⟨hC, nC, nL, nF, fun v z => by rw [hCd] at z; cases z⟩
    show wpAny (model X.prog X.w) X.A (noteFrame (.ref a) X.env) _ _ s'
    refine inv_note hst IP (xt.same _ _ ha) fl fun s3 H4 I3 e3 tb3 x3 => ?_
    obtain ⟨pC, nC3, _⟩ := I3.pin (s2.heap.objs.size + 1, oC) (List.mem_append_right _ (List.mem_singleton.mpr rfl))
    have pC : s3.heap.get? (s2.heap.objs.size + 1) = some oC := pC
    have nC3 : H4 (s2.heap.objs.size + 1) = none := nC3
    refine ⟨m, hn.at fun o ho => by rw [hC] at ho; cases ho; exact pC, fun h' hs' cenv hcl => ?_⟩
    have I4 : Inv X [] σ H4 { s3 with heap := h' } := (I3.pins_of (pins' := []) (fun p hp => absurd hp (by simp))).turned (t' := s3.toks) (it := s2.heap.objs.size + 1) (fun b o hb e => (hs'.2 b hb).trans e) nC3 nL (.inr (Nat.le_trans I2.sz (Nat.le_succ _)))
      (fun x c e z => by
        obtain ⟨v, q⟩ := I2.cell x c e
        exact absurd (Nat.lt_of_lt_of_le q.lt (by rw [z]; exact Nat.le_succ _)) (Nat.lt_irrefl _))
      (fun p hp => by
        rw [List.append_nil] at hp
        exact Nat.ne_of_lt (Nat.lt_succ_of_lt (Heap.lt_size (I2.pin p (List.mem_append_left _ hp)).1)))
    obtain ⟨oe, vs, T', oT, ts', he', hd, h1, hTa, hTT, eT, dT, h3⟩ := tb3
    have tb4 : Tb h' H4 a (rawInt X.env.locals) := ⟨oe, vs, T', oT, ts', (hs'.2 a (ne_of_none e3 nC3)).trans he', hd, h1, hTa, hTT, (hs'.2 T' (ne_of_none hTT nC3)).trans eT, dT, h3⟩
    unfold PySem.passOn
    refine wpAny_bind (wpAny_field (s := { s3 with heap := h' }) ((hs'.2 a (ne_of_none e3 nC3)).trans he') hd h1 ?_)
    rw [if_neg (by simp)]
    refine wpAny_bind (inv_flightF cenv.frame I4 tb4 fun s5 I5 tb5 => ?_)
    exact wpAny_throw (l _ _ ⟨σ, H₁, H4, a, c, od, rfl, I5, ha, xt.trans x3, .inr ⟨_, tb5⟩, q⟩)
end
end L2

set_option Elab.async false
set_option linter.all false
set_option maxRecDepth 100000
set_option maxHeartbeats 2000000
namespace L2
open PySem PySem.Spec PyProof.Rows
structure TxtOk (x : Str) : Prop where
  len : x.length ≤ 150
  asc : ∀ c ∈ x.cps.toList, c < 128
inductive MRepSP (v : V) (H1 : Hp) (R : Hp → Prop) : Prop
  | mk (x : Str) (h0 : v = .str x) (h1 : TxtOk x) (q : R H1)
noncomputable def tMRepS (te : TE) (t : TM) : TM := fun σ H k => te σ H fun v H1 => MRepSP v H1 fun H1 => t σ H1 k
section
variable {X : Cx} {e : Expr} {es : List Expr} {te : TE} {t : TM} {pos : Pos}
theorem pm_reprS (he : PE X e te) (ht : PM X es t) : PM X (.FormattedValue e 114 none pos :: es) (tMRepS te t) := fun out c pins s σ H Q z1 z2 I h => by
  show wpAny _ _ (joinParts out (eval (.FormattedValue e 114 none pos) X.env :: evalEach es X.env)) _ _ s
  rw [List.length_cons] at z2
  refine joinParts_cons (wpAny_FormattedValue_repr (thn (he pins s σ H _ I h) fun u s1 ⟨v, H1, I1, r, q0⟩ => ?_))
  obtain ⟨x, rfl, hx, q⟩ := q0
  obtain ⟨tk, rfl⟩ := r
  have hz := StrLaws.reprText_len x fun c hc => Nat.lt_trans (hx.asc c hc) (by decide)
  have hl := hx.len
  have hz2 : (reprText x).length ≤ 2000 := by lia
  have e : (out ++ reprText x).length ≤ c + 2000 := by rw [strLen_append]; lia
  refine wpAny_pyReprObj_str ?_ (by lia)
  exact formatField_str (fun t' tk' => ⟨by lia, ht _ (c + 2000) pins _ σ H1 Q e (by lia) ((I1.tok _).tok _) q⟩) (by lia)
end
end L2
namespace Cw
open PySem L2
open Classical
theorem txt_drop {x : Str} (h : TxtOk x) (k : Nat) : TxtOk (dropS x k) :=
  ⟨by rw [dropS_len]; have := h.len; lia, fun c hc => h.asc c (List.mem_of_mem_drop (show c ∈ (cl x).drop k by simpa [dropS] using hc))⟩
noncomputable def pFig (m : Nat) (x : Str) : Option Nat := if cl x ≠ [] ∧ (∀ c ∈ cl x, 48 ≤ c ∧ c ≤ 57) ∧ ((cl x).head? = some 48 → cl x = [48]) ∧ x.length ≤ m then some (numOf (cl x)) else none
noncomputable def pNum (m g : Nat) (x : Str) : Option Nat := (pFig m x).bind fun n => if n ≤ g then some n else none
noncomputable def pVal (x : Str) : Option Int := if (cl x).head? = some 45 then (pNum 10 1000000000 (dropS x 1)).bind fun n => if n = 0 then none else some (-((n : Nat) : Int)) else (pNum 10 1000000000 x).map fun n => ((n : Nat) : Int)
noncomputable def pKind (x : Str) : Option Kd := if (cl x).head? = some 33 then some .send else if (cl x).head? = some 63 then some .take else none
noncomputable def pHead (a : Str) (v : Int) : Option Ev := if a = Str.ofString "" then some ⟨.own, 0, v⟩ else (pKind a).bind fun k => (pNum 2 99 (dropS a 1)).map fun l => ⟨k, ((l : Nat) : Int), v⟩
noncomputable def pEv (w : Str) : Option Ev := (pVal (Txt.partition w (one 61)).2.2).bind (pHead (Txt.partition w (one 61)).1)
noncomputable def pRow (x : Str) : Option (List Ev) := if x = Str.ofString "" then some [] else if (Txt.split x (one 32)).length ≤ 6 then (Txt.split x (one 32)).mapM pEv else none
noncomputable def pRows (ls : List Str) : Option Rows := if ls.length ≤ 4 then ls.mapM pRow else none
theorem numOf_lt (cs : List Nat) (h : ∀ c ∈ cs, 48 ≤ c ∧ c ≤ 57) : ∀ a : Nat, cs.foldl (fun a c => a * 10 + (c - 48)) a < (a + 1) * 10 ^ cs.length := by
  induction cs with
  | nil => intro a; simp
  | cons c cs ih =>
    intro a
    have hc := h c (List.mem_cons_self ..)
    have := ih (fun x hx => h x (List.mem_cons_of_mem _ hx)) (a * 10 + (c - 48))
    rw [List.foldl_cons, List.length_cons, Nat.pow_succ]
    refine Nat.lt_of_lt_of_le this ?_
    have h2 : a * 10 + (c - 48) + 1 ≤ (a + 1) * 10 := by lia
    calc (a * 10 + (c - 48) + 1) * 10 ^ cs.length ≤ ((a + 1) * 10) * 10 ^ cs.length := Nat.mul_le_mul_right _ h2
      _ = (a + 1) * (10 ^ cs.length * 10) := by rw [Nat.mul_assoc, Nat.mul_comm 10]
theorem pFig_some {m : Nat} {x : Str} {n : Nat} (h : pFig m x = some n) : cl x ≠ [] ∧ (∀ c ∈ cl x, 48 ≤ c ∧ c ≤ 57) ∧ ((cl x).head? = some 48 → cl x = [48]) ∧ x.length ≤ m ∧ n = numOf (cl x) := by
  unfold pFig at h
  split at h
  · rename_i hc
    exact ⟨hc.1, hc.2.1, hc.2.2.1, hc.2.2.2, (Option.some.inj h).symm⟩
  · cases h
theorem pFig_lt {m : Nat} {x : Str} {n : Nat} (h : pFig m x = some n) : n < 10 ^ m := by
  obtain ⟨_, h2, _, h4, rfl⟩ := pFig_some h
  have := numOf_lt (cl x) h2 0
  rw [cl_len] at this
  unfold numOf
  refine Nat.lt_of_lt_of_le this ?_
  rw [Nat.zero_add, Nat.one_mul]
  exact Nat.pow_le_pow_right (by decide) h4
theorem pNum2 (x : Str) : pNum 2 99 x = pFig 2 x := by
  unfold pNum
  cases h : pFig 2 x with
  | none => rfl
  | some n =>
    have := pFig_lt h
    have e : (10 : Nat) ^ 2 = 100 := by decide
    show (if n ≤ 99 then some n else none) = some n
    rw [if_pos (by lia)]
theorem pNum_le {m g n : Nat} {x : Str} (h : pNum m g x = some n) : n ≤ g := by
  unfold pNum at h
  cases hf : pFig m x with
  | none => rw [hf] at h; cases h
  | some k =>
    rw [hf] at h
    have h : (if k ≤ g then some k else none) = some n := h
    split at h
    · cases h; assumption
    · cases h
theorem pVal_bd {x : Str} {v : Int} (h : pVal x = some v) : -1000000000 ≤ v ∧ v ≤ 1000000000 := by
  unfold pVal at h
  split at h
  · cases hn : pNum 10 1000000000 (dropS x 1) with
    | none => rw [hn] at h; cases h
    | some n =>
      rw [hn] at h
      have := pNum_le hn
      have h : (if n = 0 then none else some (-((n : Nat) : Int))) = some v := h
      split at h
      · cases h
      · cases h; lia
  · cases hn : pNum 10 1000000000 x with
    | none => rw [hn] at h; cases h
    | some n =>
      rw [hn] at h
      have := pNum_le hn
      have h : some ((n : Nat) : Int) = some v := h
      cases h
      lia
theorem pEv_ok {w : Str} {e : Ev} (h : pEv w = some e) : EvOk e := by
  unfold pEv at h
  cases hv : pVal (Txt.partition w (one 61)).2.2 with
  | none => rw [hv] at h; cases h
  | some v =>
    rw [hv] at h
    have hb := pVal_bd hv
    have h : pHead (Txt.partition w (one 61)).1 v = some e := h
    unfold pHead at h
    split at h
    · cases h
      exact ⟨Int.le_refl _, by show (0 : Int) ≤ 99; decide, hb.1, hb.2, fun _ => rfl⟩
    · unfold pKind at h
      cases hl : pNum 2 99 (dropS (Txt.partition w (one 61)).1 1) with
      | none =>
        rw [hl] at h
        split at h
        · cases h
        · split at h <;> cases h
      | some l =>
        rw [hl] at h
        have := pNum_le hl
        split at h
        · cases h
          exact ⟨by show (0 : Int) ≤ ((l : Nat) : Int); lia, by show ((l : Nat) : Int) ≤ 99; lia, hb.1, hb.2, fun z => (nomatch z)⟩
        · split at h
          · cases h
            exact ⟨by show (0 : Int) ≤ ((l : Nat) : Int); lia, by show ((l : Nat) : Int) ≤ 99; lia, hb.1, hb.2, fun z => (nomatch z)⟩
          · cases h
theorem mapM_mem {α β : Type} {f : α → Option β} : ∀ {xs : List α} {ys : List β}, xs.mapM f = some ys → ys.length = xs.length ∧ ∀ y ∈ ys, ∃ x ∈ xs, f x = some y
  | [], ys, h => by
    rw [List.mapM_nil] at h
    cases h
    exact ⟨rfl, fun y hy => by cases hy⟩
  | x :: xs, ys, h => by
    rw [List.mapM_cons] at h
    cases hx : f x with
    | none => rw [hx] at h; cases h
    | some y =>
      rw [hx] at h
      cases hs : xs.mapM f with
      | none => rw [hs] at h; cases h
      | some zs =>
        rw [hs] at h
        have h : some (y :: zs) = some ys := h
        cases h
        obtain ⟨h1, h2⟩ := mapM_mem hs
        refine ⟨by rw [List.length_cons, List.length_cons, h1], fun z hz => ?_⟩
        rcases List.mem_cons.mp hz with rfl | hz
        · exact ⟨x, List.mem_cons_self .., hx⟩
        · obtain ⟨w, hw, e⟩ := h2 z hz
          exact ⟨w, List.mem_cons_of_mem _ hw, e⟩
theorem pRow_ok {x : Str} {r : List Ev} (h : pRow x = some r) : r.length ≤ 6 ∧ ∀ e ∈ r, EvOk e := by
  unfold pRow at h
  split at h
  · cases h
    exact ⟨by decide, fun e he => by cases he⟩
  · split at h
    · rename_i hl
      obtain ⟨h1, h2⟩ := mapM_mem h
      refine ⟨by rw [h1]; exact hl, fun e he => ?_⟩
      obtain ⟨w, _, hw⟩ := h2 e he
      exact pEv_ok hw
    · cases h
theorem bnd_of {rs : Rows} (h1 : 1 ≤ rs.length) (h4 : rs.length ≤ 4) (h : ∀ r ∈ rs, r.length ≤ 6 ∧ ∀ e ∈ r, EvOk e) : Bnd rs := by
  have key : ∀ (i p : Nat) (e : Ev), at? rs i p = some e → EvOk e := fun i p e ha => by
    obtain ⟨r, hr, hre⟩ := at_some ha
    exact (h r (List.mem_of_getElem? hr)).2 e (List.mem_of_getElem? hre)
  exact ⟨h1, h4, fun i r hr => (h r (List.mem_of_getElem? hr)).1, fun i p e ha => ⟨(key i p e ha).l0, (key i p e ha).l1⟩, fun i p e ha => ⟨(key i p e ha).v0, (key i p e ha).v1⟩, fun i p e ha => (key i p e ha).own⟩
theorem pRows_ok {ls : List Str} {rs : Rows} (hne : ls ≠ []) (h : pRows ls = some rs) : Bnd rs := by
  unfold pRows at h
  split at h
  · rename_i hl
    obtain ⟨h1, h2⟩ := mapM_mem h
    refine bnd_of ?_ (by rw [h1]; exact hl) fun r hr => ?_
    · have := List.length_pos_iff.mpr hne
      rw [h1]
      exact this
    · obtain ⟨w, _, hw⟩ := h2 r hr
      exact pRow_ok hw
  · cases h
end Cw

set_option Elab.async false
set_option linter.all false
set_option maxRecDepth 100000
set_option maxHeartbeats 2000000
namespace Cw
open PySem L2
structure ExcU (K : PySem.W.Frag) (w : World) (mg : Str → Option Value) (C RE BL RI NE NC NN pK : Addr) : Prop where
  m_RecordError : mg "RecordError" = some (.ref RE)
  m_BadLetter : mg "BadLetter" = some (.ref BL)
  m_Ring : mg "Ring" = some (.ref RI)
  m_NoEvent : mg "NoEvent" = some (.ref NE)
  m_NoCut : mg "NoCut" = some (.ref NC)
  m_NoNote : mg "NoNote" = some (.ref NN)
  m_Record : mg "Record" = some (.ref C)
  m_ValueError : mg "ValueError" = none
  m_abs : mg "abs" = none
  root : XRoot K RE
  x_NoNote : XCls K NN
  a_BadLetter : XAt K BL
  a_Ring : XAt K RI
  a_NoNote : XAt K NN
  s_BadLetter : PySem.W.subIn K (.ref BL) (.ref RE) = some true
  s_Ring : PySem.W.subIn K (.ref RI) (.ref RE) = some true
  s_NoNote : PySem.W.subIn K (.ref NN) (.ref RE) = some true
  k_BadLetter : PySem.W.kitOne K (.ref BL) (.ref BL) = some true ∧ PySem.W.kitOne K (.ref BL) (.ref RI) = some false ∧ PySem.W.kitOne K (.ref BL) (.ref NE) = some false ∧ PySem.W.kitOne K (.ref BL) (.ref NC) = some false ∧ PySem.W.kitOne K (.ref BL) (.ref NN) = some false ∧ PySem.W.kitOne K (.ref BL) (.ref RE) = some true ∧ PySem.W.kitOne K (.ref BL) (.type "ValueError") = some true
  k_Ring : PySem.W.kitOne K (.ref RI) (.ref BL) = some false ∧ PySem.W.kitOne K (.ref RI) (.ref RI) = some true ∧ PySem.W.kitOne K (.ref RI) (.ref NE) = some false ∧ PySem.W.kitOne K (.ref RI) (.ref NC) = some false ∧ PySem.W.kitOne K (.ref RI) (.ref NN) = some false ∧ PySem.W.kitOne K (.ref RI) (.ref RE) = some true ∧ PySem.W.kitOne K (.ref RI) (.type "ValueError") = some true
  k_NoNote : PySem.W.kitOne K (.ref NN) (.ref BL) = some false ∧ PySem.W.kitOne K (.ref NN) (.ref RI) = some false ∧ PySem.W.kitOne K (.ref NN) (.ref NE) = some false ∧ PySem.W.kitOne K (.ref NN) (.ref NC) = some false ∧ PySem.W.kitOne K (.ref NN) (.ref NN) = some true ∧ PySem.W.kitOne K (.ref NN) (.ref RE) = some true ∧ PySem.W.kitOne K (.ref NN) (.type "ValueError") = some true
  g_KINDS : mg "KINDS" = some (.ref pK)
  d_KINDS : KD K w pK "!" "send" "?" "take"
  c_FIGURES : ∃ t, mg "FIGURES" = some (.str "0123456789" t)
  c_MOST_LINES : ∃ t, mg "MOST_LINES" = some (.int 4 t)
  c_MOST_EVENTS : ∃ t, mg "MOST_EVENTS" = some (.int 6 t)
  c_GREATEST_LETTER : ∃ t, mg "GREATEST_LETTER" = some (.int 99 t)
  c_GREATEST_VALUE : ∃ t, mg "GREATEST_VALUE" = some (.int 1000000000 t)
  r_cl : PySem.W.findIn K (.ref C) "__class__" = some (some (.builtin "object.__class__"))
  r_sp : PySem.W.specialIn K (.builtin "object.__class__") "__get__" = some (some (.builtin "getset_descriptor.__get__"))
  r_tk : PySem.W.takesIn K (.builtin "object.__class__") = some true
  r_mo : PySem.W.mroIn K C (.type "object") = some true
  r_it : PySem.W.kitOne K (.ref C) (.ref C) = some true
noncomputable def Bd (m g : Nat) : Prop := (m = 2 ∧ g = 99) ∨ (m = 10 ∧ g = 1000000000)
inductive sp_rnumRP (NN : Addr) (vs : List V) (H : Hp) (Q : VK) (E : XK) : Prop
  | mk (x : Str) (m g : Nat) (h_0 : vs = [.str x, .int ((g : Nat) : Int)]) (h_1 : TxtOk x) (h_2 : Bd m g) (h_3 : ∀ n, pNum m g x = some n → ∀ H', Same H H' → Q (.int ((n : Nat) : Int)) H') (h_4 : pNum m g x = none → ∀ H', Same H H' → E (.ref NN) none H')
noncomputable def sp_rnumR (NN : Addr) : Sp := fun vs H Q E => sp_rnumRP NN vs H Q E
inductive sp_rvalRP (NN : Addr) (vs : List V) (H : Hp) (Q : VK) (E : XK) : Prop
  | mk (x : Str) (h_0 : vs = [.str x]) (h_1 : TxtOk x) (h_2 : ∀ v, pVal x = some v → ∀ H', Same H H' → Q (.int v) H') (h_3 : pVal x = none → ∀ H', Same H H' → E (.ref NN) none H')
noncomputable def sp_rvalR (NN : Addr) : Sp := fun vs H Q E => sp_rvalRP NN vs H Q E
inductive sp_revRP (NN : Addr) (vs : List V) (H : Hp) (Q : VK) (E : XK) : Prop
  | mk (x : Str) (h_0 : vs = [.str x]) (h_1 : TxtOk x) (h_2 : ∀ e, pEv x = some e → ∀ (t : Addr) (H' : Hp), Same H H' → H' t = some (.tup e.vs) → Q (.ref t) H') (h_3 : pEv x = none → ∀ H', Same H H' → E (.ref NN) none H')
noncomputable def sp_revR (NN : Addr) : Sp := fun vs H Q E => sp_revRP NN vs H Q E
inductive sp_rrowRP (NN : Addr) (vs : List V) (H : Hp) (Q : VK) (E : XK) : Prop
  | mk (x : Str) (h_0 : vs = [.str x]) (h_1 : TxtOk x) (h_2 : ∀ r, pRow x = some r → ∀ (p : Addr) (H' : Hp), Same H H' → H p = none → RowA H' p r → Q (.ref p) H') (h_3 : pRow x = none → ∀ H', Same H H' → E (.ref NN) none H')
noncomputable def sp_rrowR (NN : Addr) : Sp := fun vs H Q E => sp_rrowRP NN vs H Q E
inductive sp_initUP (C BL RI : Addr) (vs : List V) (H : Hp) (Q : VK) (E : XK) : Prop
  | mk (x : Addr) (dx : Addr) (a : Addr) (ps : List Addr) (rs : Rows) (h_0 : vs = [.ref x, .ref a]) (h_1 : H x = some (.ins C dx [])) (h_2 : RowsA H a ps rs) (h_3 : Bnd rs) (h_4 : (Val rs → ∀ (r : Addr) (qs : List Addr) (sd td : Addr) (H' : Hp), Kept (fun b => b = x) H H' → RecA C H' x rs r qs sd td → H r = none → (∀ q ∈ qs, H q = none) → H sd = none → H td = none → Q .non H')) (h_5 : (Bad rs → ∀ H', Kept (fun b => b = x) H H' → E (.ref BL) none H')) (h_6 : (Uniq .send rs → Uniq .take rs → Sent rs → ∀ (l : List Pl) (dd l2 : Addr) (H' : Hp), RingL rs l → Kept (fun b => b = x) H H' → H' dd = some (.xd [("events", .ref l2)]) → EvsA H' l2 l → E (.ref RI) (some dd) H'))
noncomputable def sp_initU (C BL RI : Addr) : Sp := fun vs H Q E => sp_initUP C BL RI vs H Q E
inductive sp_readRP (C BL RI NN : Addr) (vs : List V) (H : Hp) (Q : VK) (E : XK) : Prop
  | mk (x : Str) (ls : List Str) (h_0 : vs = [.str x]) (h_1 : x.length ≤ 2000) (h_2 : Txt.split x (one 10) = ls) (h_3 : ls.length ≤ 10) (h_4 : ∀ l ∈ ls, TxtOk l) (h_5 : pRows ls = none → ∀ H', Same H H' → E (.ref NN) none H') (h_6 : ∀ rs, pRows ls = some rs → Bad rs → ∀ H', Same H H' → E (.ref BL) none H') (h_7 : ∀ rs, pRows ls = some rs → Val rs → ∀ (x r : Addr) (qs : List Addr) (sd td : Addr) (H' : Hp), Same H H' → RecA C H' x rs r qs sd td → Q (.ref x) H')
    (h_8 : ∀ rs, pRows ls = some rs → Uniq .send rs → Uniq .take rs → Sent rs → ∀ (l : List Pl) (dd l2 : Addr) (H' : Hp), RingL rs l → Same H H' → H' dd = some (.xd [("events", .ref l2)]) → E (.ref RI) (some dd) H')
noncomputable def sp_readR (C BL RI NN : Addr) : Sp := fun vs H Q E => sp_readRP C BL RI NN vs H Q E
theorem fig_dec (c : Nat) : (!(Builtin.Str.occurrences (Str.ofString "0123456789") ⟨#[c]⟩ 0 (Str.ofString "0123456789").length 1).isEmpty) = decide (48 ≤ c ∧ c ≤ 57) := by
  rw [StrLaws.found_one]
  rw [show (Str.ofString "0123456789").cps.toList = [48, 49, 50, 51, 52, 53, 54, 55, 56, 57] by decide +kernel]
  by_cases h : 48 ≤ c ∧ c ≤ 57
  · rw [decide_eq_true h]
    have : c = 48 ∨ c = 49 ∨ c = 50 ∨ c = 51 ∨ c = 52 ∨ c = 53 ∨ c = 54 ∨ c = 55 ∨ c = 56 ∨ c = 57 := by lia
    rcases this with rfl | rfl | rfl | rfl | rfl | rfl | rfl | rfl | rfl | rfl <;> decide
  · rw [decide_eq_false h]
    refine decide_eq_false fun z => h ?_
    simp only [List.mem_cons, List.not_mem_nil, or_false] at z
    omega
theorem pNum_empty {m g : Nat} {x : Str} (h : x = Str.ofString "") : pNum m g x = none := by
  unfold pNum pFig
  rw [if_neg fun z => z.1 (by rw [h]; exact lit_em)]
  rfl
theorem pNum_nofig {m g : Nat} {x : Str} (h : ¬ ∀ c ∈ cl x, 48 ≤ c ∧ c ≤ 57) : pNum m g x = none := by
  unfold pNum pFig
  rw [if_neg fun z => h z.2.1]
  rfl
theorem pNum_nought {m g : Nat} {x : Str} (h : (cl x).head? = some 48) (h2 : x ≠ Str.ofString "0") : pNum m g x = none := by
  unfold pNum pFig
  rw [if_neg fun z => h2 (by rw [lit_ze]; exact cl_ext (z.2.2.1 h))]
  rfl
theorem pNum_long {m g : Nat} {x : Str} (h : m < x.length) : pNum m g x = none := by
  unfold pNum pFig
  rw [if_neg fun z => by have := z.2.2.2; lia]
  rfl
theorem pFig_yes {m : Nat} {x : Str} (h1 : x ≠ Str.ofString "") (h2 : ∀ c ∈ cl x, 48 ≤ c ∧ c ≤ 57) (h3 : ¬ ((cl x).head? = some 48 ∧ x ≠ Str.ofString "0")) (h4 : x.length ≤ m) : pFig m x = some (numOf (cl x)) := by
  unfold pFig
  rw [if_pos]
  refine ⟨fun z => h1 (cl_ext (by rw [z, lit_em])), h2, fun z => ?_, h4⟩
  by_cases q : x = Str.ofString "0"
  · rw [q, lit_ze]; rfl
  · exact absurd ⟨z, q⟩ h3
theorem pNum_big {m g : Nat} {x : Str} (h : g < numOf (cl x)) : pNum m g x = none := by
  unfold pNum
  cases hf : pFig m x with
  | none => rfl
  | some n =>
    obtain ⟨_, _, _, _, rfl⟩ := pFig_some hf
    show (if numOf (cl x) ≤ g then some _ else none) = none
    rw [if_neg (by lia)]
theorem pNum_yes {m g : Nat} {x : Str} (h : pFig m x = some (numOf (cl x))) (h2 : ¬ g < numOf (cl x)) : pNum m g x = some (numOf (cl x)) := by
  unfold pNum
  rw [h]
  show (if numOf (cl x) ≤ g then some _ else none) = _
  rw [if_pos (by lia)]
theorem starts_head (x : Str) : Txt.startswith x (Str.ofString "-") = decide ((cl x).head? = some 45) := by
  unfold Txt.startswith
  rw [lit_mi]
  have key := StrLaws.subAt_one x 45 0
  rw [show x.cps.toList[0]? = (cl x).head? by rw [List.head?_eq_getElem?]] at key
  by_cases h : (cl x).head? = some 45
  · rw [decide_eq_true h]
    have := key.mpr h
    have h2 : decide (0 + (one 45).length ≤ x.length) = true := decide_eq_true this.1
    show (decide (0 + (one 45).length ≤ x.length) && Builtin.Str.subAt x (one 45) 0) = true
    rw [h2]
    exact this.2
  · rw [decide_eq_false h, Bool.eq_false_iff]
    intro z
    have z := Bool.and_eq_true _ _ ▸ z
    exact h (key.mp ⟨of_decide_eq_true z.1, z.2⟩)
theorem len_pos {x : Str} {c : Nat} (h : (cl x).head? = some c) : 1 ≤ x.length := by
  rw [← cl_len]
  cases hx : cl x with
  | nil => rw [hx] at h; cases h
  | cons a r => rw [List.length_cons]; lia
theorem head_at {x : Str} {c : Nat} (h : (cl x).head? = some c) : atI (cl x) 0 = some c := by
  cases hx : cl x with
  | nil => rw [hx] at h; cases h
  | cons a r =>
    rw [hx] at h
    cases h
    exact (show atI (c :: r) ((0 : Nat) : Int) = some c from atI_nat rfl)
theorem head_some {x : Str} (h : x ≠ Str.ofString "") : ∃ c, (cl x).head? = some c := by
  cases hx : cl x with
  | nil => exact absurd (cl_ext (by rw [hx, lit_em])) h
  | cons a r => exact ⟨a, rfl⟩
theorem txt_sub {x : Str} (h : TxtOk x) (i j : Nat) : TxtOk (Builtin.Str.strSub x i j) :=
  ⟨Nat.le_trans (strSub_length_le x i j) h.len, fun c hc => h.asc c (by
    have hc : c ∈ cl (Builtin.Str.strSub x i j) := hc
    rw [cl_sub] at hc
    exact List.mem_of_mem_drop (List.mem_of_mem_take hc))⟩
theorem txt_empty : TxtOk Str.empty := ⟨by decide, fun c hc => by cases hc⟩
theorem txt_part {x : Str} (h : TxtOk x) : TxtOk (Txt.partition x (one 61)).1 ∧ TxtOk (Txt.partition x (one 61)).2.2 := by
  unfold Txt.partition
  cases Builtin.Str.occurrences x (one 61) 0 x.length 1 with
  | nil => exact ⟨h, txt_empty⟩
  | cons i r => exact ⟨txt_sub h _ _, txt_sub h _ _⟩
theorem join_mem {s : Nat} : ∀ {ps : List Str} {p : Str}, p ∈ ps → p.length ≤ (Str.join (one s) ps).length ∧ ∀ c ∈ cl p, c ∈ cl (Str.join (one s) ps)
  | [q], p, h => by
    rw [List.mem_singleton.mp h]
    exact ⟨Nat.le_refl _, fun c hc => hc⟩
  | q :: q2 :: ps, p, h => by
    rw [← cl_len (Str.join (one s) (q :: q2 :: ps)), cl_join2]
    rcases List.mem_cons.mp h with rfl | h
    · exact ⟨by rw [List.length_append, cl_len]; lia, fun c hc => List.mem_append_left _ hc⟩
    · obtain ⟨h1, h2⟩ := join_mem (s := s) h
      exact ⟨by rw [List.length_append, List.length_cons, cl_len, cl_len]; lia, fun c hc => List.mem_append_right _ (List.mem_cons_of_mem _ (h2 c hc))⟩
theorem txt_split {x : Str} {s : Nat} (h : TxtOk x) : ∀ p ∈ Txt.split x (one s), TxtOk p := fun p hp => by
  have e := StrLaws.join_split x (one s)
  obtain ⟨h1, h2⟩ := join_mem (s := s) hp
  rw [e] at h1 h2
  exact ⟨Nat.le_trans h1 h.len, fun c hc => h.asc c (h2 c hc)⟩
end Cw
namespace Cw
open PySem L2
theorem iteTo {b : Bool} {A B : Prop} (hb : b = true) (h : A) : if b = true then A else B := by
  rw [hb, if_pos rfl]
  exact h
theorem mapM_none {α β : Type} {f : α → Option β} : ∀ {xs : List α} {i : Nat} {x : α}, xs[i]? = some x → f x = none → xs.mapM f = none
  | [], _, _, h, _ => by simp at h
  | y :: xs, 0, x, h, hf => by
    have h : y = x := by simpa using h
    rw [List.mapM_cons, h, hf]
    rfl
  | y :: xs, i + 1, x, h, hf => by
    rw [List.mapM_cons, mapM_none (xs := xs) (i := i) (by simpa using h) hf]
    cases f y <;> rfl
theorem mapM_snoc {α β : Type} {f : α → Option β} : ∀ {xs : List α} {ys : List β} {x : α} {y : β}, xs.mapM f = some ys → f x = some y → (xs ++ [x]).mapM f = some (ys ++ [y])
  | [], ys, x, y, h, hf => by
    rw [List.mapM_nil] at h
    cases h
    rw [List.nil_append, List.mapM_cons, hf, List.mapM_nil]
    rfl
  | z :: xs, ys, x, y, h, hf => by
    rw [List.mapM_cons] at h
    rw [List.cons_append, List.mapM_cons]
    cases hz : f z with
    | none => rw [hz] at h; cases h
    | some w =>
      rw [hz] at h
      cases hs : xs.mapM f with
      | none => rw [hs] at h; cases h
      | some zs =>
        rw [hs] at h
        have h : some (w :: zs) = some ys := h
        cases h
        rw [mapM_snoc hs hf]
        rfl
end Cw

set_option Elab.async false
set_option linter.all false
set_option maxRecDepth 100000
set_option maxHeartbeats 2000000
namespace L2
open PySem PySem.Spec PyProof.Rows PySem.Builtin.Str
section
variable {X : Cx}
inductive rSFindP (x : V) (vs : List V) (H : Hp) (Q : VK) : Prop
  | mk (a b : Str) (h_0 : x = .str a) (h_1 : vs = [.str b]) (h_2 : Q (.int (Txt.find a b)) H)
noncomputable def rSFind : V → List V → Hp → VK → Prop := fun x vs H Q => rSFindP x vs H Q
theorem mt_sfind : MtM X "str.find" rSFind := by
  intro pins s σ H x vs v us Q I rx rv h
  obtain ⟨a, b, rfl, rfl, q⟩ := h
  obtain ⟨t, rfl⟩ := rx
  obtain ⟨u, rfl, ru⟩ := rv.one
  obtain ⟨t2, rfl⟩ := ru
  exact PySem.SC.find ⟨.int _, H, I.tok _, ⟨_, rfl⟩, q⟩
inductive rSlAP (x : V) (lo hi : Option Int) (H : Hp) (Q : VK) : Prop
  | mk (a : Str) (k j : Nat) (h_0 : x = .str a) (h_1 : lo = some ((k : Nat) : Int)) (h_2 : (hi = none ∧ j = a.length) ∨ ∃ j0 : Nat, hi = some ((j0 : Nat) : Int) ∧ j = min j0 a.length) (h_3 : k ≤ j) (h_4 : a.length ≤ sizeLine) (h_5 : Q (.str (strSub a k j)) H)
noncomputable def rSlA : V → Option Int → Option Int → Hp → VK → Prop := fun x lo hi H Q => rSlAP x lo hi H Q
theorem sub_eq (a : Str) (k j : Nat) : strSub a k j = ⟨((a.cps.toList.drop k).take (j - k)).toArray⟩ := by
  show (⟨a.cps.extract k j⟩ : Str) = _
  congr 1
  rw [← List.extract_eq_take_drop, ← Array.toList_extract, Array.toArray_toList]
theorem sl_strA : SlR X rSlA := by
  intro pins s σ H x v vl vu lo hi sl Q I rx hs pl pu h
  obtain ⟨a, k, j, rfl, rfl, hj, hkj, hz, q⟩ := h
  obtain ⟨t, rfl⟩ := rx
  cases pl with
  | int i t2 =>
  have hjl : j ≤ a.length := by
    rcases hj with ⟨_, rfl⟩ | ⟨j0, _, rfl⟩
    · exact Nat.le_refl _
    · exact Nat.min_le_right _ _
  refine ⟨"str", _, F.slot_str_getitem.lookup, typeIs_str _ _ _, ?_⟩
  have q' : ∀ tk t', EP X pins σ Q (.str (strSub a k j) t') { s with toks := tk } := fun tk t' => ⟨.str (strSub a k j), H, I.tok _, ⟨_, rfl⟩, q⟩
  have fin : ∀ (u : Option (Int × Tok)), slicePicked a (some (((k : Nat) : Int), t2)) u none = strSliceIndices (some ((k : Nat) : Int)) (some ((j : Nat) : Int)) 1 a.length → (sliceMade a t (some (((k : Nat) : Int), t2)) u none).post (EP X pins σ Q) s := by
    intro u e0
    have e1 := StrLaws.sliced_plain a (a := k) (b := j) hkj hjl
    unfold sliceMade
    rw [e0, e1, StrLaws.strSliceIndices_plain hkj hjl]
    rw [sub_eq] at q'
    split
    · rename_i hc
      have := (Bool.and_eq_true _ _ ▸ hc).2
      simp at this
      have hk0 : k = 0 := by lia
      have hj0 : j = a.length := by lia
      have ea : (⟨((a.cps.toList.drop k).take (j - k)).toArray⟩ : Str) = a := by
        rw [hk0, hj0, List.drop_zero, List.take_of_length_le (by show a.cps.toList.length ≤ a.cps.size - 0; simp), Array.toArray_toList]
      rw [ea] at q'
      exact q' s.toks t
    · refine ⟨?_, q' _ _⟩
      show ((a.cps.toList.drop k).take (j - k)).toArray.size ≤ sizeLine
      rw [List.size_toArray, List.length_take, List.length_drop]
      have : a.cps.toList.length = a.length := by show _ = a.cps.size; simp
      lia
  have h1 : ¬ (((k : Nat) : Int) < 0) := by lia
  have e1 : max (0 : Int) (min ((k : Nat) : Int) ((a.length : Nat) : Int)) = ((k : Nat) : Int) := by lia
  have h2 : ¬ (((j : Nat) : Int) < 0) := by lia
  have e2 : max (0 : Int) (min ((j : Nat) : Int) ((a.length : Nat) : Int)) = ((j : Nat) : Int) := by lia
  rcases hj with ⟨rfl, rfl⟩ | ⟨j0, rfl, rfl⟩
  · cases pu
    refine wpAny_getItem_str_slice (l := some (((k : Nat) : Int), t2)) (u := none) (st := none) hs rfl (fin none ?_)
    show strSliceIndices (some ((k : Nat) : Int)) none 1 a.length = _
    simp only [strSliceIndices, h1, h2, if_false, e1, e2, show ((1 : Int) > 0) = True from by simp, if_true]
  · cases pu with
    | int i2 t3 =>
    refine wpAny_getItem_str_slice (l := some (((k : Nat) : Int), t2)) (u := some (((j0 : Nat) : Int), t3)) (st := none) hs rfl (fin _ ?_)
    show strSliceIndices (some ((k : Nat) : Int)) (some ((j0 : Nat) : Int)) 1 a.length = _
    have h3 : ¬ (((j0 : Nat) : Int) < 0) := by lia
    have e3 : max (0 : Int) (min ((j0 : Nat) : Int) ((a.length : Nat) : Int)) = (((min j0 a.length : Nat) : Nat) : Int) := by lia
    simp only [strSliceIndices, h1, h2, h3, if_false, e1, e2, e3, show ((1 : Int) > 0) = True from by simp, if_true]
theorem for_str {x : Str} {g : TG} {tb : TS} {D : Ends} {σ : St} {H : Hp} (Pv : Nat → St → Hp → Prop) (h0 : Pv 0 σ H)
    (hs : ∀ i c σ H, x.cps[i]? = some c → Pv i σ H → g (.str ⟨#[c]⟩) σ H fun σ2 H2 => tb (D.lp (Pv (i + 1))) σ2 H2) (hd : ∀ σ H, Pv x.cps.size σ H → D.nx σ H) :
    ∃ W : Nat → Nat → St → Hp → Prop, (∃ m, W 0 m σ H) ∧ ∀ i m σ H, W i m σ H →
      ((Its x).stop i H ∧ D.nx σ H) ∨ ((Its x).go i H ∧ ∃ N : St → Hp → Prop, (∀ σ' H', N σ' H' → ∃ m', m' < m ∧ W (i + 1) m' σ' H') ∧ ∀ v H', (Its x).yld i H v H' → g v σ H' fun σ2 H2 => tb (D.lp N) σ2 H2) := by
  refine ⟨fun i m σ H => m = x.cps.size - i ∧ i ≤ x.cps.size ∧ Pv i σ H, ⟨x.cps.size, by simp, Nat.zero_le _, h0⟩, ?_⟩
  rintro i m σ H ⟨rfl, hi, p⟩
  by_cases hlt : i < x.cps.size
  · refine .inr ⟨hlt, Pv (i + 1), fun σ' H' p' => ⟨x.cps.size - (i + 1), by lia, rfl, hlt, p'⟩, fun v H' y => ?_⟩
    obtain ⟨e, c, hc, y⟩ := y
    subst e y
    exact hs i c σ _ hc p
  · have e : i = x.cps.size := by lia
    subst e
    exact .inl ⟨Nat.le_refl _, hd σ H p⟩
inductive rAbsP (xs : List V) (H : Hp) (Q : VK) : Prop
  | mk (i : Int) (h_0 : xs = [.int i]) (h_1 : Q (.int (if i < 0 then -i else i)) H)
noncomputable def rAbs : List V → Hp → VK → Prop := fun xs H Q => rAbsP xs H Q
theorem call_absI : CallR X (.builtin "abs") rAbs := by
  intro pins s σ H xs us Q I r h
  obtain ⟨i, rfl, q⟩ := h
  obtain ⟨u, rfl, ru⟩ := vals1 r
  obtain ⟨t, rfl⟩ := ru
  exact call_abs_int fun u tk => ⟨.int _, H, I.tok _, ⟨_, rfl⟩, q⟩
theorem bt_abs : bootBuiltins "abs" = some (.builtin "abs") := by decide +kernel
inductive rNotInSP (x y : V) (H : Hp) (Q : VK) : Prop
  | mk (i j : Str) (h_0 : x = .str i) (h_1 : y = .str j) (h_2 : Q (.bl (!(!(Builtin.Str.occurrences j i 0 j.length 1).isEmpty))) H)
noncomputable def rNotInS : R2 := fun x y H Q => rNotInSP x y H Q
theorem op_notInS : OpR X (compareOp .NotIn) rNotInS := by
  intro pins s σ H x y v u Q I rx ry h
  obtain ⟨i, j, e1, e2, q⟩ := h
  exact op_notIn_str pins s σ H x y v u Q I rx ry ⟨i, j, e1, e2, q⟩
noncomputable def MOpt (K : PySem.W.Frag) (H : Hp) (x : V) (a : Option (List V)) : Prop := (x = .non ∧ a = none) ∨ ∃ l, a = some l ∧ MTup K MFl H x l
theorem EqOk.opt : EqOk X 1 (MOpt X.K) where
  eq := fun pins σ H s A x y a b u v I hu hx hy rx ry => by
    rcases hx with ⟨rfl, rfl⟩ | ⟨l, rfl, hx⟩
    · cases (show u = Value.none from rx)
      rcases hy with ⟨rfl, rfl⟩ | ⟨l2, rfl, hy⟩
      · cases (show v = Value.none from ry)
        rw [show decide ((none : Option (List V)) = none) = decide (V.non = V.non) by rw [decide_eq_true rfl, decide_eq_true rfl]]
        exact EqOk.flat.eq pins σ H s A .non .non .non .non .none .none I (by lia) ⟨rfl, rfl⟩ ⟨rfl, rfl⟩ rfl rfl
      · obtain ⟨p, xs, rfl, hp, _⟩ := hy
        cases (show v = Value.ref p from ry)
        obtain ⟨its, _, pl, _⟩ := I.tuple hp
        exact SeqAt.EqAt.none_tuple pl (by lia)
    · rcases hy with ⟨rfl, rfl⟩ | ⟨l2, rfl, hy⟩
      · cases (show v = Value.none from ry)
        obtain ⟨p, xs, rfl, hp, _⟩ := hx
        cases (show u = Value.ref p from rx)
        obtain ⟨its, _, pl, _⟩ := I.tuple hp
        exact SeqAt.EqAt.tuple_none pl (by lia)
      · have := EqOk.flat.tup.eq pins σ H s A x y l l2 u v I hu hx hy rx ry
        rw [show decide (some l = some l2) = decide (l = l2) from decide_eq_decide.mpr ⟨fun z => Option.some.inj z, fun z => by rw [z]⟩]
        exact this
  fn := fun pins σ H s x a b I h1 h2 => by
    rcases h1 with ⟨rfl, rfl⟩ | ⟨l, rfl, h1⟩
    · rcases h2 with ⟨_, rfl⟩ | ⟨l2, rfl, p, _, z, _⟩
      · rfl
      · cases z
    · rcases h2 with ⟨rfl, rfl⟩ | ⟨l2, rfl, h2⟩
      · obtain ⟨p, _, z, _⟩ := h1
        cases z
      · rw [EqOk.flat.tup.fn pins σ H s x l l2 I h1 h2]
end
end L2
namespace Cw
open PySem L2
structure WOk (x : Str) : Prop where
  len : x.length ≤ 15
  asc : ∀ c ∈ cl x, c < 128 ∧ c ≠ 10
inductive sp_wordP (vs : List V) (H : Hp) (Q : VK) : Prop
  | mk (c : Int) (h0 : vs = [.int c]) (h1 : 0 ≤ c) (h2 : c < 2 ^ 40) (q : ∀ (x : Str) (H' : Hp), Same H H' → WOk x → Q (.str x) H')
noncomputable def sp_word : Sp := fun vs H Q _ => sp_wordP vs H Q
noncomputable def optN (o : Option Nat) : V := match o with
  | none => .non
  | some n => .int ((n : Nat) : Int)
inductive sp_lnumP (vs : List V) (H : Hp) (Q : VK) : Prop
  | mk (x : Str) (m : Nat) (h0 : vs = [.str x, .int ((m : Nat) : Int)]) (h1 : x.length ≤ 150) (h2 : m = 2 ∨ m = 10) (q : Q (optN (pFig m x)) H)
noncomputable def sp_lnum : Sp := fun vs H Q _ => sp_lnumP vs H Q
inductive sp_levP (vs : List V) (H : Hp) (Q : VK) : Prop
  | mk (x : Str) (h0 : vs = [.str x]) (h1 : x.length ≤ 150) (q : ∀ e, pEv x = some e → ∀ (t : Addr) (H' : Hp), Same H H' → H' t = some (.tup e.vs) → Q (.ref t) H') (qn : pEv x = none → ∀ H', Same H H' → Q .non H')
noncomputable def sp_lev : Sp := fun vs H Q _ => sp_levP vs H Q
inductive sp_lrowsP (K : PySem.W.Frag) (vs : List V) (H : Hp) (Q : VK) : Prop
  | mk (p : Addr) (ls : List Str) (h0 : vs = [.ref p]) (h1 : H p = some (.lst (ls.map V.str))) (h2 : ls.length ≤ 10) (h3 : ∀ l ∈ ls, l.length ≤ 150) (q : ∀ rs, pRows ls = some rs → ∀ (a : Addr) (ps : List Addr) (H' : Hp), Same H H' → RowsA H' a ps rs → Q (.ref a) H') (qn : pRows ls = none → ∀ H', Same H H' → Q .non H')
noncomputable def sp_lrows (K : PySem.W.Frag) : Sp := fun vs H Q _ => sp_lrowsP K vs H Q
inductive sp_twiceP (vs : List V) (H : Hp) (Q : VK) : Prop
  | mk (a : Addr) (ps : List Addr) (rs : Rows) (h0 : vs = [.ref a]) (h1 : RowsA H a ps rs) (h2 : Bnd rs) (q : ∀ (b : Bool) (H' : Hp), Same H H' → (b = true ↔ Bad rs) → Q (.bl b) H')
noncomputable def sp_twice : Sp := fun vs H Q _ => sp_twiceP vs H Q
inductive sp_alone3P (BL RI NN : Addr) (vs : List V) (H : Hp) (Q : VK) : Prop
  | mk (e D : Addr) (od : Option Addr) (n : Nat) (h0 : vs = [.ref e]) (h1 : H e = some (exO e (.ref D) od)) (h2 : (D = BL ∧ n = 0 ∧ od = none) ∨ (D = RI ∧ n = 1 ∧ ∃ dx fs, od = some dx ∧ H dx = some (.xd fs)) ∨ (D = NN ∧ n = 4 ∧ od = none)) (q : ∀ H', Same H H' → Q (.int ((n : Nat) : Int)) H')
noncomputable def sp_alone3 (BL RI NN : Addr) : Sp := fun vs H Q _ => sp_alone3P BL RI NN vs H Q
end Cw

set_option Elab.async false
set_option linter.all false
set_option maxRecDepth 100000
set_option maxHeartbeats 2000000
namespace Cw
open PySem L2 PySem.Builtin.Str
theorem cl_drop (x : Str) (k : Nat) : cl (dropS x k) = (cl x).drop k := by simp [dropS]
theorem pVal_empty : pVal Str.empty = none := by
  unfold pVal
  rw [if_neg (by decide), pNum_empty (show Str.empty = Str.ofString "" by decide +kernel)]
  rfl
theorem find_ev (w : Str) : (Txt.find w (one 61) = -1 ∧ pEv w = none) ∨ ∃ i : Nat, Txt.find w (one 61) = ((i : Nat) : Int) ∧ i + 1 ≤ w.length ∧ pEv w = (pVal (strSub w (i + 1) w.length)).bind (pHead (strSub w 0 i)) := by
  unfold pEv Txt.find Txt.partition
  rcases StrLaws.occ_head w (one 61) 1 (Nat.le_refl _) with ⟨ho, hn⟩ | ⟨i, r, ho, hA, hm⟩
  · rw [ho]
    exact .inl ⟨rfl, by show (pVal Str.empty).bind _ = none; rw [pVal_empty]; rfl⟩
  · rw [ho]
    exact .inr ⟨i, rfl, hA.1, rfl⟩
theorem sub_dash {w : Str} {i : Nat} (h : i + 1 ≤ w.length) : (V.str (strSub w (i + 1) (min (i + 2) w.length)) = V.str (Str.ofString "-")) ↔ (cl (strSub w (i + 1) w.length)).head? = some 45 := by
  rw [lit_mi]
  have e : cl (strSub w (i + 1) (min (i + 2) w.length)) = (cl (strSub w (i + 1) w.length)).take 1 := by
    rw [cl_sub, cl_sub, List.take_take, ← cl_len]
    rw [← cl_len] at h
    by_cases h2 : i + 2 ≤ (cl w).length
    · rw [Nat.min_eq_left h2, Nat.min_eq_left (by lia)]
      congr 1
      lia
    · rw [Nat.min_eq_right (by lia)]
      have h0 : (cl w).drop (i + 1) = [] := List.drop_eq_nil_of_le (by lia)
      rw [h0]
      simp
  constructor
  · intro z
    injection z with z
    have z := congrArg cl z
    rw [e] at z
    have z : (cl (strSub w (i + 1) w.length)).take 1 = [45] := z
    cases hc : cl (strSub w (i + 1) w.length) with
    | nil => rw [hc] at z; cases z
    | cons a r => rw [hc] at z; cases z; rfl
  · intro z
    refine congrArg V.str (cl_ext ?_)
    rw [e]
    cases hc : cl (strSub w (i + 1) w.length) with
    | nil => rw [hc] at z; cases z
    | cons a r => rw [hc] at z; cases z; rfl
theorem sub_two {w : Str} {i : Nat} : strSub w (i + 2) w.length = dropS (strSub w (i + 1) w.length) 1 := cl_ext (by
  rw [cl_drop, cl_sub, cl_sub, List.drop_take, List.drop_drop]
  congr 1
  )
theorem sub_two_le {w : Str} {i : Nat} (h : (cl (strSub w (i + 1) w.length)).head? = some 45) : i + 2 ≤ w.length := by
  rw [cl_sub] at h
  by_cases h2 : i + 2 ≤ w.length
  · exact h2
  · rw [List.drop_eq_nil_of_le (by rw [cl_len]; lia), List.take_nil] at h
    cases h
theorem sub_let {w : Str} {i : Nat} (h : i ≤ w.length) : strSub w 1 (min i w.length) = dropS (strSub w 0 i) 1 := cl_ext (by
  rw [cl_drop, cl_sub, cl_sub, List.drop_take, List.drop_drop, Nat.min_eq_left h]
  rfl)
theorem sub_head {w : Str} {i : Nat} (h : 1 ≤ i) : (cl (strSub w 0 i)).head? = (cl w).head? := by
  rw [cl_sub, List.drop_zero, List.head?_take]
  rw [if_neg (by lia)]
theorem sub_none {w : Str} : strSub w 0 0 = Str.ofString "" := cl_ext (by rw [cl_sub, lit_em]; simp)
theorem pKind_at {a : Str} {c : Nat} (h : (cl a).head? = some c) : pKind a = if c = 33 then some .send else if c = 63 then some .take else none := by
  unfold pKind
  rw [h]
  simp only [Option.some.injEq]
theorem pHead_no {a : Str} {v : Int} (ha : a ≠ Str.ofString "") (h : pKind a = none ∨ pFig 2 (dropS a 1) = none) : pHead a v = none := by
  unfold pHead
  rw [if_neg ha, pNum2]
  rcases h with h | h
  · rw [h]; rfl
  · rw [h]; cases pKind a <;> rfl
theorem pHead_yes {a : Str} {v : Int} {k : Kd} {n : Nat} (ha : a ≠ Str.ofString "") (h1 : pKind a = some k) (h2 : pFig 2 (dropS a 1) = some n) : pHead a v = some ⟨k, ((n : Nat) : Int), v⟩ := by
  unfold pHead
  rw [if_neg ha, pNum2, h1, h2]
  rfl
theorem pVal_plus {c : Str} (h : ¬ (cl c).head? = some 45) : pVal c = (pFig 10 c).bind fun n => if n ≤ 1000000000 then some ((n : Nat) : Int) else none := by
  unfold pVal pNum
  rw [if_neg h]
  cases pFig 10 c with
  | none => rfl
  | some n =>
    show Option.map _ (if n ≤ 1000000000 then some n else none) = (if n ≤ 1000000000 then some ((n : Nat) : Int) else none)
    split <;> rfl
theorem pVal_minus {c : Str} (h : (cl c).head? = some 45) : pVal c = (pFig 10 (dropS c 1)).bind fun n => if n = 0 ∨ ¬ n ≤ 1000000000 then none else some (-((n : Nat) : Int)) := by
  unfold pVal pNum
  rw [if_pos h]
  cases pFig 10 (dropS c 1) with
  | none => rfl
  | some n =>
    show (if n ≤ 1000000000 then some n else none).bind _ = (if n = 0 ∨ ¬ n ≤ 1000000000 then none else some (-((n : Nat) : Int)))
    by_cases h1 : n ≤ 1000000000
    · rw [if_pos h1]
      show (if n = 0 then none else some (-((n : Nat) : Int))) = _
      by_cases h2 : n = 0
      · rw [if_pos h2, if_pos (.inl h2)]
      · rw [if_neg h2, if_neg (by intro z; rcases z with z | z; exact h2 z; exact z h1)]
    · rw [if_neg h1, if_pos (.inr h1)]
      rfl
end Cw

set_option Elab.async false
set_option linter.all false
set_option maxRecDepth 100000
set_option maxHeartbeats 2000000
namespace Cw
open PySem L2
noncomputable def EvO (H : Hp) (x : V) (o : Option Ev) : Prop := (x = .non ∧ o = none) ∨ ∃ e, o = some e ∧ EvAt H x e
theorem EvO.keep {S : Addr → Prop} {H H' : Hp} {x : V} {o : Option Ev} (k : Kept S H H') (n : NoTup S H) (h : EvO H x o) : EvO H' x o := by
  rcases h with h | ⟨e, h1, h2⟩
  · exact .inl h
  · exact .inr ⟨e, h1, h2.keep k n⟩
theorem EvO.mean (K : PySem.W.Frag) {H : Hp} {x : V} {o : Option Ev} (h : EvO H x o) : MOpt K H x (o.map Ev.vs) := by
  rcases h with ⟨h1, h2⟩ | ⟨e, rfl, p, rfl, h2⟩
  · exact .inl ⟨h1, by rw [h2]; rfl⟩
  · exact .inr ⟨e.vs, rfl, p, _, rfl, SqT.of h2, .cons ⟨rfl, rfl⟩ (.cons ⟨rfl, rfl⟩ (.cons ⟨rfl, rfl⟩ .nil))⟩
theorem evos_mean (K : PySem.W.Frag) {H : Hp} {l : Addr} {ys : List V} {os : List (Option Ev)} (h : H l = some (.lst ys)) (m : Paired (EvO H) ys os) : MLst K (MOpt K) H (.ref l) (os.map (Option.map Ev.vs)) := by
  refine ⟨l, ys, rfl, SqL.of h, ?_⟩
  clear h
  induction m with
  | nil => exact .nil
  | cons h t ih => exact .cons (h.mean K) ih
theorem evos_some {H : Hp} {ys : List V} {r : List Ev} (m : Paired (EvO H) ys (r.map some)) : Paired (EvAt H) ys r := by
  induction r generalizing ys with
  | nil => cases m; exact .nil
  | cons e r ih =>
    rw [List.map_cons] at m
    cases m with
    | cons h t =>
      rcases h with ⟨_, h⟩ | ⟨e2, h1, h2⟩
      · cases h
      · cases h1
        exact .cons h2 (ih t)
theorem mapM_all {α β : Type} {f : α → Option β} : ∀ {xs : List α}, none ∉ xs.map f → ∃ r, xs.mapM f = some r ∧ xs.map f = r.map some
  | [], _ => ⟨[], rfl, rfl⟩
  | x :: xs, h => by
    rw [List.map_cons] at h
    obtain ⟨r, h1, h2⟩ := mapM_all (xs := xs) fun z => h (List.mem_cons_of_mem _ z)
    cases hx : f x with
    | none => exact absurd (by rw [hx]; exact List.mem_cons_self ..) h
    | some y =>
      refine ⟨y :: r, ?_, by rw [List.map_cons, List.map_cons, hx, h2]⟩
      rw [List.mapM_cons, hx, h1]
      rfl
open Classical in
noncomputable def osOf (x : Str) : List (Option Ev) := if x = Str.ofString "" then [] else (Txt.split x (one 32)).map pEv
theorem osOf_em {x : Str} (h : x = Str.ofString "") : osOf x = [] := by unfold osOf; rw [if_pos h]
theorem osOf_ne {x : Str} (h : x ≠ Str.ofString "") : osOf x = (Txt.split x (one 32)).map pEv := by unfold osOf; rw [if_neg h]
theorem pRow_none {x : Str} (h : none ∈ osOf x ∨ 6 < (osOf x).length) : pRow x = none := by
  unfold pRow
  by_cases h0 : x = Str.ofString ""
  · rw [osOf_em h0] at h
    rcases h with h | h
    · cases h
    · exact absurd h (by decide)
  · rw [osOf_ne h0] at h
    rw [if_neg h0]
    split
    · rename_i h6
      rcases h with h | h
      · obtain ⟨w, hw, e⟩ := List.mem_map.mp h
        obtain ⟨i, hi⟩ := List.getElem?_of_mem hw
        exact mapM_none hi e
      · rw [List.length_map] at h; exact absurd h6 (by lia)
    · rfl
theorem pRow_some {x : Str} (h1 : none ∉ osOf x) (h2 : ¬ 6 < (osOf x).length) : ∃ r, pRow x = some r ∧ osOf x = r.map some := by
  unfold pRow
  by_cases h0 : x = Str.ofString ""
  · rw [if_pos h0]
    exact ⟨[], rfl, osOf_em h0⟩
  · rw [osOf_ne h0] at h1 h2 ⊢
    rw [if_neg h0]
    obtain ⟨r, e1, e2⟩ := mapM_all h1
    rw [List.length_map] at h2
    exact ⟨r, by rw [if_pos (by lia)]; exact e1, e2⟩
theorem pRows_none {ls : List Str} {i : Nat} {x : Str} (h : ls[i]? = some x) (hx : pRow x = none) : pRows ls = none := by
  unfold pRows
  split
  · exact mapM_none h hx
  · rfl
theorem none_mem {os : List (Option Ev)} : (none ∈ os.map (Option.map Ev.vs)) ↔ none ∈ os := by
  constructor
  · intro h
    obtain ⟨o, ho, e⟩ := List.mem_map.mp h
    cases o with
    | none => exact ho
    | some e2 => cases e
  · intro h
    exact List.mem_map.mpr ⟨none, h, rfl⟩
theorem split_short {x : Str} {s : Nat} : ∀ p ∈ Txt.split x (one s), p.length ≤ x.length := fun p hp => by
  have e := StrLaws.join_split x (one s)
  obtain ⟨h1, h2⟩ := join_mem (s := s) hp
  rw [e] at h1
  exact h1
end Cw

set_option Elab.async false
set_option linter.all false
set_option maxRecDepth 100000
set_option maxHeartbeats 2000000
namespace Cw
open PySem L2
theorem two_of {α : Type} {l : List α} (nd : l.Nodup) {P : α → Bool} {o : α} (ho : o ∈ l) (hP : P o = true) : 1 < l.countP P ↔ ∃ o2 ∈ l, o2 ≠ o ∧ P o2 = true := by
  rw [List.countP_eq_length_filter]
  have nf := nd.filter P
  have mf : ∀ x, x ∈ l.filter P ↔ x ∈ l ∧ P x = true := fun x => List.mem_filter
  generalize l.filter P = f at nf mf
  constructor
  · intro h
    match f, nf, mf, h with
    | x :: y :: r, nf, mf, _ =>
      by_cases hx : x = o
      · have hy := (mf y).mp (List.mem_cons_of_mem _ (List.mem_cons_self ..))
        refine ⟨y, hy.1, fun z => ?_, hy.2⟩
        rw [hx, ← z] at nf
        exact (List.nodup_cons.mp nf).1 (List.mem_cons_self ..)
      · have hx' := (mf x).mp (List.mem_cons_self ..)
        exact ⟨x, hx'.1, hx, hx'.2⟩
  · rintro ⟨o2, h2, hne, hP2⟩
    have m1 := (mf o).mpr ⟨ho, hP⟩
    have m2 := (mf o2).mpr ⟨h2, hP2⟩
    match f, m1, m2 with
    | [x], m1, m2 => exact absurd ((List.mem_singleton.mp m2).trans (List.mem_singleton.mp m1).symm) hne
    | x :: y :: r, _, _ => rw [List.length_cons, List.length_cons]; lia
open Classical in
noncomputable def hdB (rs : Rows) (e : Ev) (o : Pl) : Bool := decide (∃ e2, at? rs o.1 o.2 = some e2 ∧ e2.k = e.k ∧ e2.l = e.l)
theorem hdB_at {rs : Rows} {e e2 : Ev} {o : Pl} (h : at? rs o.1 o.2 = some e2) : hdB rs e o = decide (e2.k = e.k ∧ e2.l = e.l) := by
  unfold hdB
  by_cases h2 : e2.k = e.k ∧ e2.l = e.l
  · rw [decide_eq_true h2]
    exact decide_eq_true ⟨e2, h, h2⟩
  · rw [decide_eq_false h2]
    exact decide_eq_false fun ⟨e3, h3, h4⟩ => by
      rw [h] at h3
      cases h3
      exact h2 h4
noncomputable def BadAt (rs : Rows) (e : Ev) : Prop := (e.k ≠ .own ∧ 1 < (evs rs).countP (hdB rs e)) ∨ (e.k = .take ∧ ∀ (o : Pl) (e2 : Ev), at? rs o.1 o.2 = some e2 → e2.k = .send → e2.l ≠ e.l)
theorem many_iff {rs : Rows} {o : Pl} {e : Ev} (h : at? rs o.1 o.2 = some e) : 1 < (evs rs).countP (hdB rs e) ↔ ∃ (o2 : Pl) (e2 : Ev), at? rs o2.1 o2.2 = some e2 ∧ o2 ≠ o ∧ e2.k = e.k ∧ e2.l = e.l := by
  rw [two_of (l := evs rs) (evsFrom_nodup 0 rs) (mem_evs'.mpr ⟨e, h⟩) (by rw [hdB_at h]; exact decide_eq_true ⟨rfl, rfl⟩)]
  constructor
  · rintro ⟨o2, h2, hne, hb⟩
    obtain ⟨e2, he2⟩ := mem_evs'.mp h2
    rw [hdB_at he2] at hb
    exact ⟨o2, e2, he2, hne, of_decide_eq_true hb⟩
  · rintro ⟨o2, e2, he2, hne, hb⟩
    exact ⟨o2, mem_evs'.mpr ⟨e2, he2⟩, hne, by rw [hdB_at he2]; exact decide_eq_true hb⟩
theorem bad_uniq {rs : Rows} {k : Kd} (hk : k ≠ .own) (h : ¬ Uniq k rs) : ∃ (o : Pl) (e : Ev), at? rs o.1 o.2 = some e ∧ BadAt rs e := by
  refine Classical.byContradiction fun hn => h ?_
  intro h1 p1 h2 p2 e e2 a1 a2 k1 k2 hl
  refine Classical.byContradiction fun hne => hn ⟨(h1, p1), e, a1, .inl ⟨by rw [k1]; exact hk, (many_iff (o := (h1, p1)) a1).mpr ⟨(h2, p2), e2, a2, fun z => hne ?_, k2.trans k1.symm, hl.symm⟩⟩⟩
  injection z with z1 z2
  exact ⟨z1.symm, z2.symm⟩
theorem bad_iff {rs : Rows} : Bad rs ↔ ∃ (o : Pl) (e : Ev), at? rs o.1 o.2 = some e ∧ BadAt rs e := by
  constructor
  · rintro (h | h | h)
    · exact bad_uniq (by decide) h
    · exact bad_uniq (by decide) h
    · refine Classical.byContradiction fun hn => h ?_
      intro h1 p1 e a1 k1
      refine Classical.byContradiction fun hne => hn ⟨(h1, p1), e, a1, .inr ⟨k1, fun o e2 a2 k2 hl => hne ⟨o.1, o.2, e2, a2, k2, hl⟩⟩⟩
  · rintro ⟨o, e, he, ⟨hk, hc⟩ | ⟨hk, hc⟩⟩
    · obtain ⟨o2, e2, he2, hne, k2, l2⟩ := (many_iff he).mp hc
      have key : ¬ Uniq e.k rs := fun u => hne (by
        obtain ⟨z1, z2⟩ := u o2.1 o2.2 o.1 o.2 e2 e he2 he k2 rfl l2
        exact Prod.ext z1 z2)
      cases hke : e.k with
      | own => exact absurd hke hk
      | send => rw [hke] at key; exact .inl key
      | take => rw [hke] at key; exact .inr (.inl key)
    · refine .inr (.inr fun st => ?_)
      obtain ⟨h', p', e', a, b, c⟩ := st o.1 o.2 e he hk
      exact hc (h', p') e' a b c
end Cw

set_option Elab.async false
set_option linter.all false
set_option maxRecDepth 100000
set_option maxHeartbeats 4000000
namespace Cw
open PySem L2
noncomputable def top (i : Nat) : Stmt := PySem.Challenge.pw_cutway_k18_notes_refused.main.body.getD i (.Pass ⟨0, 0, 0, 0⟩)
noncomputable abbrev s_law_cell_at : Stmt := top 30
theorem sc_law_cell_at : FnScope ["script", "k"] ["script", "k"] (defScope s_law_cell_at) := ⟨rfl, rfl, rfl, by decide +kernel, rfl, by decide +kernel, by decide +kernel⟩

noncomputable abbrev s_law_draw : Stmt := top 31
theorem sc_law_draw : FnScope ["script", "k"] ["script", "k"] (defScope s_law_draw) := ⟨rfl, rfl, rfl, by decide +kernel, rfl, by decide +kernel, by decide +kernel⟩


section
variable {P : Program} {w : World} {K : PySem.W.Frag} {mg : Str → Option Value} {base : Heap}
theorem ok_cell {f : Addr} {fd : FuncData} (F : Fun K "_law_cell_at" "_law_cell_at" s_law_cell_at f fd) (B : Bl mg) : FnOk P w K mg base CX0 1 f fd ["script", "k"] (sp_cell K) := by
  have sc := sc_law_cell_at
  refine F.ok sc (fun vs H Q E h => ?_) (fun cdv A outer s H vs Q E hr h => ?_)
  · obtain ⟨a, ns, k, rfl, _⟩ := h
    rfl
  · obtain ⟨a, ns, k, rfl, hS, hk, q⟩ := h
    refine ⟨_, (pss_cons (ps_if (pt_cmpR op_lt (pv 1) (pe_callB call_len_seqI (by rfl) (B "len" (by decide +kernel)) bt_len (pa_cons (pv 0) pa_nil)) (nomark _)) (pss_one (ps_ret (pe_ix ix_list (pv 0) (pv 1) (fun _ _ => rfl)))) pss_nil)
       (pss_one (ps_ret pe_int))), ?_⟩
    refine ⟨_, rfl, _, rfl, a, _, rfl, .inl hS, _, _, rfl, rfl, _, rfl, ?_⟩
    refine ite2 (fun h => ?_) (fun h => ?_)
    · exact ⟨_, rfl, _, rfl, a, _, k, _, rfl, rfl, hS, atI_int hk (of_decide_eq_true h), q⟩
    · have e := cell_out (ns := ns) (k := k) (fun z => h (decide_eq_true z))
      rw [e] at q
      exact q
theorem ok_draw {f : Addr} {fd : FuncData} (F : Fun K "_law_draw" "_law_draw" s_law_draw f fd) (B : Bl mg) (D_law_cell_at : Df P w K mg base 1 "_law_cell_at" ["script", "k"] (sp_cell K)) : FnOk P w K mg base CX0 2 f fd ["script", "k"] (sp_draw K) := by
  have sc := sc_law_draw
  refine F.ok sc (fun vs H Q E h => ?_) (fun cdv A outer s H vs Q E hr h => ?_)
  · obtain ⟨a, ns, k, rfl, _⟩ := h
    rfl
  · obtain ⟨a, ns, k, rfl, hS, hk, q⟩ := h
    refine ⟨_, (pss_one (ps_ret (pe_op op_mod (pe_op op_mul (pe_op op_add (pe_df D_law_cell_at (hr.mono (by decide)) (pa_cons (pv 0) (pa_cons (pe_op op_mod (pv 1) pe_int) pa_nil))) (pe_op op_mul pe_int (pv 1))) pe_int) pe_int))), ?_⟩
    refine ⟨_, rfl, _, rfl, _, _, rfl, rfl, (by show (0 : Int) < 61; decide), a, ns, k % 61, rfl, hS, Int.emod_nonneg _ (by decide), ?_⟩
    refine ⟨_, rfl, _, _, rfl, rfl, .inl ⟨by decide, by decide⟩, _, _, rfl, rfl, _, _, rfl, rfl, .inr ⟨by decide, by decide⟩, _, _, rfl, rfl, (by show (0 : Int) < 2147483647; decide), ?_⟩
    exact q
end
end Cw

set_option Elab.async false
set_option linter.all false
set_option maxRecDepth 100000
set_option maxHeartbeats 4000000
namespace Cw
open PySem L2
section
variable {P : Program} {w : World} {K : PySem.W.Frag} {mg : Str → Option Value} {base : Heap}
end
end Cw

set_option Elab.async false
set_option linter.all false
set_option maxRecDepth 100000
set_option maxHeartbeats 4000000
namespace Cw
open PySem L2
noncomputable abbrev s_letter_places : Stmt := top 10
theorem sc_letter_places : FnScope ["rows", "kind", "places", "hand", "row", "at", "event", "letter"] ["rows", "kind"] (defScope s_letter_places) := ⟨rfl, rfl, rfl, by decide +kernel, rfl, by decide +kernel, by decide +kernel⟩

noncomputable abbrev s_check_sent : Stmt := top 11
theorem sc_check_sent : FnScope ["sends", "takes", "letter"] ["sends", "takes"] (defScope s_check_sent) := ⟨rfl, rfl, rfl, by decide +kernel, rfl, by decide +kernel, by decide +kernel⟩

noncomputable abbrev s_can_be_done : Stmt := top 14
theorem sc_can_be_done : FnScope ["event", "sends", "counts", "sent"] ["event", "sends", "counts"] (defScope s_can_be_done) := ⟨rfl, rfl, rfl, by decide +kernel, rfl, by decide +kernel, by decide +kernel⟩

section
variable {P : Program} {w : World} {K : PySem.W.Frag} {mg : Str → Option Value} {base : Heap}
theorem ok_canS {f : Addr} {fd : FuncData} (F : Fun K "can_be_done" "can_be_done" s_can_be_done f fd) (B : Bl mg) : FnOk P w K mg base CX0 1 f fd ["event", "sends", "counts"] (sp_canS K) := by
  have sc := sc_can_be_done
  refine F.ok sc (fun vs H Q E h => ?_) (fun cdv A outer s H vs Q E hr h => ?_)
  · obtain ⟨t, sd, c, e, ns, rs, rfl, _⟩ := h
    rfl
  · obtain ⟨t, sd, c, e, ns, rs, rfl, ht, ⟨kvs, hd, hm⟩, hc, hl, hU, hs, q⟩ := h
    have hu := hu_of hr
    refine ⟨_, (pss_cons (ps_if (pt_cmpR op_ne (pe_ix ix_tup (pv 0) pe_int (fun _ _ => rfl)) pe_str (nomark _)) (pss_one (ps_ret pe_bl)) pss_nil)
       (pss_cons (ps_set (i := 3) sc.nd rfl (Or.inl rfl) (pe_dget hu (pv 1) (pe_ix ix_tup (pv 0) pe_int (fun _ _ => rfl)) (fun _ _ => rfl)))
       (pss_one (ps_ret (pe_cmpR op_lt (pe_ix ix_tup (pv 3) pe_int (fun _ _ => rfl)) (pe_ix ix_two (pv 2) (pe_ix ix_tup (pv 3) pe_int (fun _ _ => rfl)) (fun _ _ => rfl)) (nomark _)))))), ?_⟩
    refine ⟨_, rfl, t, _, 0, _, rfl, rfl, SqT.of ht, rfl, rfl, _, rfl, ?_⟩
    refine ite2 (fun h1 => ?_) (fun h1 => ?_)
    · have h1 : (!decide (V.str e.k.str = V.str Kd.take.str)) = true := h1
      rw [kd_dec] at h1
      have h1 : ¬ e.k = .take := by simpa using h1
      exact q true ⟨fun _ z => absurd z h1, fun _ => rfl⟩
    · have h1 : ¬ (!decide (V.str e.k.str = V.str Kd.take.str)) = true := h1
      rw [kd_dec] at h1
      have h1 : e.k = .take := by simpa using h1
      obtain ⟨h', p', e', ha, hk', hl'⟩ := hs h1
      obtain ⟨t2, hv, ht2⟩ := pl_some hm (places_nodup hU) (mem_places.mpr ⟨e', ha, hk', hl'⟩)
      have hlt : h' < ns.length := by
        obtain ⟨r, hr', _⟩ := at_some ha
        rw [hl]
        exact (List.getElem?_eq_some_iff.mp hr').1
      have hni : ns[h']? = some (ns[h']'hlt) := List.getElem?_eq_getElem hlt
      generalize ns[h']'hlt = n at hni
      refine ⟨_, rfl, _, rfl, t, _, 1, _, rfl, rfl, SqT.of ht, rfl, sd, _, rfl, .inl ⟨kvs, .inl e.l, hd, rfl, hv.symm⟩, ?_⟩
      refine ⟨_, rfl, t2, _, 1, _, rfl, rfl, SqT.of ht2, rfl, _, rfl, _, rfl, t2, _, 0, _, rfl, rfl, SqT.of ht2, rfl, c, _, _, _, rfl, rfl, hc, ints_at hni, _, _, rfl, rfl, ?_⟩
      refine q _ ⟨fun z _ => ?_, fun z => ?_⟩
      · have z : ((p' : Nat) : Int) < n := of_decide_eq_true z
        exact ⟨h', p', n, e', ha, hk', hl', hni, z⟩
      · obtain ⟨h2, p2, n2, e2, ha2, hk2, hl2, hc2, hp2⟩ := z h1
        obtain ⟨z1, z2⟩ := hU h2 p2 h' p' e2 e' ha2 ha hk2 hk' (by rw [hl2, hl'])
        subst z1; subst z2
        rw [hni] at hc2
        cases hc2
        exact decide_eq_true hp2
theorem ok_can {f : Addr} {fd : FuncData} (F : Fun K "can_be_done" "can_be_done" s_can_be_done f fd) (B : Bl mg) : FnOk P w K mg base CX0 1 f fd ["event", "sends", "counts"] sp_can := (ok_canS F B).imp fun _ _ _ _ h => can_of_canS h
end
end Cw

set_option Elab.async false
set_option linter.all false
set_option maxRecDepth 100000
set_option maxHeartbeats 4000000
namespace Cw
open PySem L2
section
variable {P : Program} {w : World} {K : PySem.W.Frag} {mg : Str → Option Value} {base : Heap}
theorem ok_placesR {f C RE BL RI NE NC NN : Addr} {fd : FuncData} (F : Fun K "letter_places" "letter_places" s_letter_places f fd) (B : Bl mg) (Z : ExcC K mg C RE BL RI NE NC NN) : FnOk P w K mg base (CXR P w) 1 f fd ["rows", "kind"] (sp_placesR BL) := by
  have sc := sc_letter_places
  refine F.okR sc (fun vs H Q E h => ?_) (fun cdv A outer s H vs Q E hr h => ?_)
  · obtain ⟨a, ps, rs, k, rfl, _⟩ := h
    rfl
  · obtain ⟨a, ps, rs, k, rfl, hR, hB, q, qE⟩ := h
    have hu := hu_of hr
    refine ⟨_, (pss_cons (ps_set (i := 2) sc.nd rfl (Or.inl rfl) pe_dnewK)
       (pss_cons (ps_for own_def rfl (pi_enum rfl (B "enumerate" (by decide +kernel)) (pv 0)) (pg_tup rfl (pgs_cons (pg_name (i := 3) sc.nd rfl (Or.inl rfl)) (pgs_cons (pg_name (i := 4) sc.nd rfl (Or.inl rfl)) pgs_nil))) (pss_one (ps_for own_def rfl (pi_enum rfl (B "enumerate" (by decide +kernel)) (pv 4)) (pg_tup rfl (pgs_cons (pg_name (i := 5) sc.nd rfl (Or.inl rfl)) (pgs_cons (pg_name (i := 6) sc.nd rfl (Or.inl rfl)) pgs_nil))) (pss_one (ps_if (pt_cmpR op_eq (pe_ix ix_tup (pv 6) pe_int (fun _ _ => rfl)) (pv 1) (nomark _)) (pss_cons (ps_set (i := 7) sc.nd rfl (Or.inl rfl) (pe_ix ix_tup (pv 6) pe_int (fun _ _ => rfl)))
       (pss_cons (ps_if (pt_cmp (pc_din hu (pv 7) (pv 2))) (pss_one (ps_raise lets_def rfl Z.m_BadLetter Z.x_BadLetter (pa_cons (pe_msg (pm_str (pm_val (pv 7) (pm_str (pm_val (pv 1) pm_nil))))) pa_nil))) pss_nil)
       (pss_one (ps_dput hu (pv 2) (pv 7) (pe_tup (pa_cons (pv 3) (pa_cons (pv 5) pa_nil))) rfl)))) pss_nil)))))
       (pss_one (ps_ret (pv 2))))), ?_⟩
    intro d hd
    refine ⟨_, rfl, a, rfl, ⟨_, SqL.of ((Same.new hd) _ _ hR.top)⟩, for_enum (K := K) (a := a) (xs := ps.map V.ref) (fun i σ H2 => Same H H2 ∧ (∃ v3 v4 v5 v6 v7, σ = [some (.ref a), some (.str k.str), some (.ref d), v3, v4, v5, v6, v7]) ∧ ∃ kvs, H2 d = some (.dK kvs) ∧ Paired (PlA H2) kvs (soFar k rs i 0) ∧ ((soFar k rs i 0).map (·.1)).Nodup)
      ⟨Same.new hd, ⟨_, _, _, _, _, rfl⟩, [], upd_same, by rw [soFar_zero]; exact .nil, by rw [soFar_zero]; exact List.nodup_nil⟩ (fun i σ H' _ ⟨s2, _⟩ => SqL.of (s2 _ _ hR.top)) ?_ ?_⟩
    · rintro i y σ H2 pe hi ⟨s2, ⟨v3, v4, v5, v6, v7, rfl⟩, kvs, hk, hm, hn0⟩ hpe
      obtain ⟨p, hp, rfl⟩ := map_ref hi
      obtain ⟨r, hr', xs, hx, m⟩ := hR.get hp
      have s3 : Same H (L2.upd H2 pe (.tup [.int (i : Nat), .ref p])) := s2.trans (Same.new hpe)
      refine ⟨pe, _, rfl, SqT.of upd_same, rfl, _, _, rfl, _, _, rfl, rfl, ?_⟩
      refine ⟨_, rfl, p, rfl, ⟨_, SqL.of (s3 _ _ hx)⟩, for_enum (K := K) (a := p) (xs := xs) (fun j σ H3 => Same H H3 ∧ (∃ v5 v6 v7, σ = [some (.ref a), some (.str k.str), some (.ref d), some (.int (i : Nat)), some (.ref p), v5, v6, v7]) ∧ ∃ kvs, H3 d = some (.dK kvs) ∧ Paired (PlA H3) kvs (soFar k rs i j) ∧ ((soFar k rs i j).map (·.1)).Nodup)
        ⟨s3, ⟨_, _, _, rfl⟩, kvs, by rw [upd_ne (ne_of_none hk hpe)]; exact hk, Paired.mapP hm fun x y z => z.keep (S := fun _ => False) (fun b o e _ => Same.new hpe b o e) (fun _ _ z => z.elim), hn0⟩ (fun i σ H' _ ⟨s2, _⟩ => SqL.of (s2 _ _ hx)) ?_ ?_⟩
      · rintro j z σ H3 pe3 hj ⟨s4, ⟨v5, v6, v7, rfl⟩, kvs, hk, hm, hn⟩ hpe3
        obtain ⟨t, e, he, rfl, ht⟩ := ev_get m hj
        have s5 : Same H3 (L2.upd H3 pe3 (.tup [.int (j : Nat), .ref t])) := Same.new hpe3
        have ht5 := s5 _ _ (s4 _ _ ht)
        have hk5 := s5 _ _ hk
        refine ⟨pe3, _, rfl, SqT.of upd_same, rfl, _, _, rfl, _, _, rfl, rfl, ?_⟩
        refine ⟨_, rfl, t, _, 0, _, rfl, rfl, SqT.of ht5, rfl, _, rfl, rfl, _, rfl, ?_⟩
        have hm5 : Paired (PlA (L2.upd H3 pe3 (.tup [.int (j : Nat), .ref t]))) kvs (soFar k rs i j) := Paired.mapP hm fun x y z => z.keep (S := fun _ => False) (fun b o e _ => s5 b o e) (fun _ _ z => z.elim)
        refine ite2 (fun h1 => ?_) (fun h1 => ?_)
        · have h1 : decide (V.str e.k.str = V.str k.str) = true := h1
          rw [kd_dec] at h1
          have h1 : e.k = k := of_decide_eq_true h1
          refine ⟨_, rfl, t, _, 1, _, rfl, rfl, SqT.of ht5, rfl, ?_⟩
          refine ⟨_, rfl, _, rfl, d, _, rfl, DGet.k (k := Sum.inl e.l) hk5, _, rfl, ?_⟩
          cases hv : valV kvs (Sum.inl e.l : Key) with
          | some vv =>
            refine iteT ?_
            have hlb := hB.lets i j e (by rw [at_row hr']; exact he)
            refine ⟨_, rfl, .inl ⟨_, rfl, log_small (by lia) (by lia)⟩, _, rfl, .inr ⟨_, rfl, by cases k <;> decide +kernel⟩, fun msg => ⟨by show 1 ≤ sizeLine; decide, fun xa hxa => ?_⟩⟩
            exact qE (twice hr' he h1 (pl_mem hm hv)) _ ((s4.trans s5).trans (Same.new hxa))
          | none =>
          refine iteF ?_
          refine ⟨_, rfl, _, rfl, (by show 2 ≤ sizeLine; decide), fun t2 ht2 => ?_⟩
          have s6 := Same.new (o := .tup [.int (i : Nat), .int (j : Nat)]) ht2
          have hk6 := s6 _ _ hk5
          refine ⟨_, rfl, _, rfl, d, _, rfl, DPut.k (k := Sum.inl e.l) hk6 (small1000 (by have := Paired.length hm; have := soFar_len (k := k) hB i j; lia)), ?_⟩
          have nd : ∀ b o, H b = some o → b ≠ d := fun b o z => ne_of_none z hd
          refine ⟨fun b o z => ?_, ⟨_, _, _, rfl⟩, _, upd_same, ?_, soFar_nd hr' he hn fun _ hmm => by
            obtain ⟨x, hx, hxl⟩ := List.mem_map.mp hmm
            obtain ⟨n0, hn0⟩ := List.getElem?_of_mem hx
            obtain ⟨kv, hkv, hkp⟩ := Paired.getR hm hn0
            exact valV_not hv (List.mem_map.mpr ⟨kv, List.mem_of_getElem? hkv, by rw [hkp.1, hxl]⟩)⟩
          · rw [upd_ne (nd b o z)]
            exact s6 _ _ (s5 _ _ (s4 _ _ z))
          · rw [soFar_ev hr' he, if_pos h1, putK_new _ hv]
            have kd : Kept (fun b => b = d) (L2.upd (L2.upd H3 pe3 (.tup [.int (j : Nat), .ref t])) t2 (.tup [.int (i : Nat), .int (j : Nat)])) (L2.upd (L2.upd (L2.upd H3 pe3 (.tup [.int (j : Nat), .ref t])) t2 (.tup [.int (i : Nat), .int (j : Nat)])) d (.dK (kvs ++ [(Sum.inl e.l, .ref t2)]))) := Kept.upd rfl
            have nt : NoTup (fun b => b = d) (L2.upd (L2.upd H3 pe3 (.tup [.int (j : Nat), .ref t])) t2 (.tup [.int (i : Nat), .int (j : Nat)])) := fun b xs hb z => by rw [hb, hk6] at z; cases z
            refine Paired.snoc (Paired.mapP hm5 fun x y z => (z.keep (S := fun _ => False) (fun b o e _ => s6 b o e) (fun _ _ z => z.elim)).keep kd nt) ⟨rfl, t2, rfl, ?_⟩
            rw [upd_ne (by rintro rfl; rw [hk5] at ht2; cases ht2), upd_same]
        · refine ⟨s4.trans s5, ⟨_, _, _, rfl⟩, kvs, hk5, ?_, soFar_nd hr' he hn fun z => absurd (by show decide (V.str e.k.str = V.str k.str) = true; rw [kd_dec, decide_eq_true z]) h1⟩
          rw [soFar_ev hr' he, if_neg (fun z => h1 (by show decide (V.str e.k.str = V.str k.str) = true; rw [kd_dec, decide_eq_true z])), List.append_nil]
          exact hm5
      · rintro σ H3 ⟨s4, ⟨v5, v6, v7, rfl⟩, kvs, hk, hm, hn⟩
        rw [Paired.length m, soFar_row hr'] at hm hn
        exact ⟨s4, ⟨_, _, _, _, _, rfl⟩, kvs, hk, hm, hn⟩
    · rintro σ H2 ⟨s2, ⟨v3, v4, v5, v6, v7, rfl⟩, kvs, hk, hm, hn⟩
      rw [List.length_map, hR.len, soFar_all] at hm hn
      exact ⟨_, rfl, q (uniq_of_nodup hn) d kvs H2 s2 hd hk hm⟩
theorem ok_checkR {f C RE BL RI NE NC NN : Addr} {fd : FuncData} (F : Fun K "check_sent" "check_sent" s_check_sent f fd) (B : Bl mg) (Z : ExcC K mg C RE BL RI NE NC NN) : FnOk P w K mg base (CXR P w) 1 f fd ["sends", "takes"] (sp_checkR BL) := by
  have sc := sc_check_sent
  refine F.okR sc (fun vs H Q E h => ?_) (fun cdv A outer s H vs Q E hr h => ?_)
  · obtain ⟨sd, td, skvs, tkvs, rfl, _⟩ := h
    rfl
  · obtain ⟨sd, td, skvs, tkvs, rfl, hs, ht, hne, hint, q, qE⟩ := h
    have hu := hu_of hr
    refine ⟨_, (pss_one (ps_for own_def rfl (pi_dkeys (pv 1)) (pg_name (i := 2) sc.nd rfl (Or.inl rfl)) (pss_one (ps_if (pt_cmp (pc_dnotin hu (pv 2) (pv 0))) (pss_one (ps_raise lets_def rfl Z.m_BadLetter Z.x_BadLetter (pa_cons (pe_msg (pm_str (pm_val (pv 2) (pm_str pm_nil)))) pa_nil))) pss_nil)))), ?_⟩
    refine ⟨_, rfl, td, tkvs, rfl, ht, fun o => for_dkeys (fun i σ H2 => H2 = L2.upd H td (.frz o (.dK tkvs)) ∧ (∀ j kv, j < i → tkvs[j]? = some kv → (valV skvs kv.1).isSome = true) ∧ ∃ v, σ = [some (.ref sd), some (.ref td), v]) ⟨rfl, fun _ _ z => absurd z (Nat.not_lt_zero _), _, rfl⟩ (fun i σ H2 _ ⟨e, _⟩ => by rw [e]; exact upd_same) ?_ ?_⟩
    · rintro i p σ H2 hi ⟨rfl, hall, v, rfl⟩
      refine ⟨_, rfl, _, rfl, sd, _, rfl, DGet.k (k := p.1) (by rw [upd_ne hne]; exact hs), _, rfl, ?_⟩
      cases hv : valV skvs p.1 with
      | some vv =>
        refine iteF ⟨rfl, fun j kv hj hkv => ?_, _, rfl⟩
        by_cases e : j = i
        · subst e
          rw [hi] at hkv; cases hkv
          rw [hv]; rfl
        · exact hall j kv (by lia) hkv
      | none =>
        refine iteT ?_
        obtain ⟨l, hl, l0, l1⟩ := hint p (List.mem_of_getElem? hi)
        refine ⟨_, rfl, .inl ⟨l, by rw [hl]; rfl, log_small (by lia) (by lia)⟩, fun msg => ⟨by show 1 ≤ sizeLine; decide, fun xa hxa => ?_⟩⟩
        refine qE (fun z => ?_) _ ((Kept.upd (S := fun b => b = td) rfl).trans (Kept.new hxa))
        have := z p (List.mem_of_getElem? hi)
        rw [hv] at this; cases this
    · rintro σ H2 ⟨rfl, hall, v, rfl⟩
      refine q (fun kv hkv => ?_) o
      obtain ⟨n, hn⟩ := List.getElem?_of_mem hkv
      exact hall n kv ((List.getElem?_eq_some_iff.mp hn).1) hn
end
end Cw

set_option Elab.async false
set_option linter.all false
set_option maxRecDepth 100000
set_option maxHeartbeats 4000000
namespace Cw
open PySem L2
noncomputable abbrev s_counts_done : Stmt := top 13
theorem sc_counts_done : FnScope ["rows", "sends", "counts", "moved", "hand", "row"] ["rows", "sends"] (defScope s_counts_done) := ⟨rfl, rfl, rfl, by decide +kernel, rfl, by decide +kernel, by decide +kernel⟩

noncomputable abbrev s_find_ring : Stmt := top 12
theorem sc_find_ring : FnScope ["rows", "sends", "counts", "hand", "row"] ["rows", "sends"] (defScope s_find_ring) := ⟨rfl, rfl, rfl, by decide +kernel, rfl, by decide +kernel, by decide +kernel⟩

section
variable {P : Program} {w : World} {K : PySem.W.Frag} {mg : Str → Option Value} {base : Heap}
noncomputable def inv_done_1 (H : L2.Hp) (c : PySem.Addr) : Nat → St → List V → Hp → Prop := fun i σ ys H2 => ∃ v, σ = [v] ∧ ys = List.replicate i (.int 0) ∧ Same H H2 ∧ H2 c = some (.lst ys)
noncomputable def inv_done_2 (a : PySem.Addr) (sd : PySem.Addr) (c : PySem.Addr) (H : L2.Hp) (rs : Cw.Rows) (cs : List Nat) : Nat → St → Hp → Prop := fun i σ H3 => ∃ cs2 mv v4 v5, σ = [some (.ref a), some (.ref sd), some (.ref c), some (.bl mv), v4, v5] ∧ DoneI H H3 c cs2 rs ∧ (mv = false → cs2 = cs ∧ ∀ h, h < i → StuckAt rs cs h) ∧ (mv = true → cs.sum < cs2.sum)
theorem ok_done {f : Addr} {fd : FuncData} (F : Fun K "counts_done" "counts_done" s_counts_done f fd) (B : Bl mg) (D_can_be_done : Df P w K mg base 1 "can_be_done" ["event", "sends", "counts"] sp_can) : FnOk P w K mg base CX0 2 f fd ["rows", "sends"] sp_done := by
  have sc := sc_counts_done
  refine F.ok sc (fun vs H Q E h => ?_) (fun cdv A outer s H vs Q E hr h => ?_)
  · obtain ⟨a, sd, ps, rs, rfl, _⟩ := h
    rfl
  · obtain ⟨a, sd, ps, rs, rfl, hR, hS, hU, hT, hz, q⟩ := h
    have hu := hu_of hr
    have hSk : ∀ H2, Same H H2 → SendsA H2 sd rs := fun H2 s2 => by
      obtain ⟨kvs, rd, m⟩ := hS
      refine ⟨kvs, ?_, Paired.mapP m fun x y z => z.keep (S := fun _ => False) (fun b o e _ => s2 b o e) (fun _ _ z => z.elim)⟩
      rcases rd with rd | ⟨o, rd⟩
      · exact .inl (s2 _ _ rd)
      · exact .inr ⟨o, s2 _ _ rd⟩
    refine ⟨_, (pss_cons (ps_setLC (i := 2) sc.nd rfl (Or.inl rfl) (te := (tC (.int 0))) (tt := tTrue) (Blk.plain (ts := ["row"]) (by decide +kernel) (by decide +kernel) rfl (by decide +kernel)) rfl (pi_list (pv 0)) (fun _ _ _ _ => (pg_name (i := 0) (show List.Nodup (["row"] : List Str) by decide +kernel) rfl (Or.inl rfl))) (fun _ _ _ _ => pifs_nil) (fun _ _ _ _ => pe_int))
       (pss_cons (ps_set (i := 3) sc.nd rfl (Or.inl rfl) pe_bl)
       (pss_cons (ps_while PassesOwn.never (pt_val (pv 3)) (pss_cons (ps_set (i := 3) sc.nd rfl (Or.inl rfl) pe_bl)
       (pss_one (ps_for PassesOwn.never rfl (pi_enum rfl (B "enumerate" (by decide +kernel)) (pv 0)) (pg_tup rfl (pgs_cons (pg_name (i := 4) sc.nd rfl (Or.inl rfl)) (pgs_cons (pg_name (i := 5) sc.nd rfl (Or.inl rfl)) pgs_nil))) (pss_one (ps_while PassesOwn.never ((pw_and (pt_cmpR op_lt (pe_ix ix_list (pv 2) (pv 4) (fun _ _ => rfl)) (pe_callB call_len_seqI (by rfl) (B "len" (by decide +kernel)) bt_len (pa_cons (pv 5) pa_nil)) (nomark _)) (pw_and1 (pt_val (pe_df D_can_be_done (hr.mono (by decide)) (pa_cons (pe_ix ix_list (pv 5) (pe_ix ix_list (pv 2) (pv 4) (fun _ _ => rfl)) (fun _ _ => rfl)) (pa_cons (pv 1) (pa_cons (pv 2) pa_nil)))))))).pt (pss_cons (ps_augS (pv 2) (pv 4) get_list pe_int ip_add set_list)
       (pss_one (ps_set (i := 3) sc.nd rfl (Or.inl rfl) pe_bl)))))))))
       (pss_one (ps_ret (pv 2)))))), ?_⟩
    refine ⟨_, rfl, a, rfl, ⟨_, SqL.of hR.top⟩, fun c hc => lc_list (K := K) (a := a) (xs := ps.map V.ref) (inv_done_1 H c)
      ⟨_, rfl, rfl, Same.new hc, upd_same⟩ (fun i σ ys H2 _ ⟨v, _, _, s2, _⟩ => SqL.of (s2 _ _ hR.top)) ?_ ?_⟩
    · rintro i y σ ys H2 hi ⟨v, rfl, rfl, s2, hD2⟩
      have hi' := (List.getElem?_eq_some_iff.mp hi).1
      rw [List.length_map, hR.len] at hi'
      refine ⟨hD2, small1000 (by rw [List.length_replicate]; lia), _, rfl, by rw [List.replicate_succ'], fun b o z => ?_, upd_same⟩
      rw [upd_ne (ne_of_none z hc)]
      exact s2 b o z
    · rintro σ ys H2 ⟨v, rfl, rfl, s2, hD2⟩
      have d0 : DoneI H H2 c (rs.map fun _ => 0) rs := by
        refine ⟨s2, ?_, .zero⟩
        rw [hD2, List.length_map, hR.len]
        unfold csV
        congr 2
        rw [List.map_map]
        exact (List.map_const' (l := rs) (b := V.int 0)).symm
      clear hD2 s2
      -- moved = True; while moved
      refine ⟨fun m σ H2 => ∃ cs mv v4 v5, σ = [some (.ref a), some (.ref sd), some (.ref c), some (.bl mv), v4, v5] ∧ DoneI H H2 c cs rs ∧ (mv = false → Stuck rs cs) ∧ m = if mv = true then 1 + ((rs.map List.length).sum - cs.sum) else 0,
        ⟨_, _, true, _, _, rfl, d0, fun z => (nomatch z), rfl⟩, ?_⟩
      rintro m σ H2 ⟨cs, mv, v4, v5, rfl, d, hst, rfl⟩
      refine ⟨_, rfl, mv, rfl, ?_⟩
      cases mv with
      | false =>
        refine iteF ?_
        exact ⟨_, rfl, q c cs H2 d.same hc d.hc d.rc (hst rfl)⟩
      | true =>
        refine iteT ?_
        clear hst
        refine ⟨fun σ H3 => ∃ cs2 mv v4 v5, σ = [some (.ref a), some (.ref sd), some (.ref c), some (.bl mv), v4, v5] ∧ DoneI H H3 c cs2 rs ∧ (mv = false → Stuck rs cs2) ∧ (mv = true → cs.sum < cs2.sum), ?_, ?_⟩
        · rintro σ H3 ⟨cs2, mv, v4, v5, rfl, d2, h1, h2⟩
          refine ⟨_, ?_, cs2, mv, v4, v5, rfl, d2, h1, rfl⟩
          cases mv with
          | false => rw [if_neg Bool.false_ne_true, if_pos rfl]; lia
          | true =>
            rw [if_pos rfl, if_pos rfl]
            have := h2 rfl
            have := d2.rc.sum
            lia
        -- for hand, row in enumerate(rows)
        refine ⟨_, rfl, a, rfl, ⟨_, SqL.of (d.same _ _ hR.top)⟩, for_enum (K := K) (a := a) (xs := ps.map V.ref) (inv_done_2 a sd c H rs cs)
          ⟨cs, false, _, _, rfl, d, fun _ => ⟨rfl, fun h z => absurd z (Nat.not_lt_zero _)⟩, fun z => (nomatch z)⟩ (fun i σ H3 _ ⟨_, _, _, _, _, d3, _⟩ => SqL.of (d3.same _ _ hR.top)) ?_ ?_⟩
        · rintro i y σ H3 pe hi ⟨cs2, mv, v4, v5, rfl, d3, h1, h2⟩ hpe
          obtain ⟨p, hp, rfl⟩ := map_ref hi
          obtain ⟨r, hr', xs, hx, m⟩ := hR.get hp
          refine ⟨pe, _, rfl, SqT.of upd_same, rfl, _, _, rfl, _, _, rfl, rfl, ?_⟩
          -- while counts[hand] < len(row) and can_be_done(..)
          refine ⟨fun m σ H4 => ∃ cs3 mv, σ = [some (.ref a), some (.ref sd), some (.ref c), some (.bl mv), some (.int (i : Nat)), some (.ref p)] ∧ DoneI H H4 c cs3 rs ∧ (mv = false → cs3 = cs ∧ ∀ h, h < i → StuckAt rs cs h) ∧ (mv = true → cs.sum < cs3.sum) ∧ cs.sum ≤ cs3.sum ∧ m = (rs.map List.length).sum - cs3.sum,
            ⟨_, cs2, mv, rfl, d3.new hpe, h1, h2, ?_, rfl⟩, ?_⟩
          · cases mv with
            | false => rw [(h1 rfl).1]; exact Nat.le_refl _
            | true => exact Nat.le_of_lt (h2 rfl)
          clear h1 h2 d3
          rintro m2 σ H4 ⟨cs3, mv, rfl, d4, h1, h2, h3, rfl⟩
          have hil : i < cs3.length := by rw [d4.rc.len]; exact (List.getElem?_eq_some_iff.mp hr').1
          have hci : cs3[i]? = some cs3[i] := List.getElem?_eq_getElem hil
          have hx4 := d4.same _ _ hx
          have hle := d4.rc.le i _ r hci hr'
          have hxl : xs.length = r.length := Paired.length m
          -- what the for wants behind
          have out : StuckAt rs cs3 i → (∃ cs2 mv_1 v4 v5, [some (V.ref a), some (.ref sd), some (.ref c), some (.bl mv), some (.int (i : Nat)), some (.ref p)] = [some (.ref a), some (.ref sd), some (.ref c), some (.bl mv_1), v4, v5] ∧ DoneI H H4 c cs2 rs ∧ (mv_1 = false → cs2 = cs ∧ ∀ h, h < i + 1 → StuckAt rs cs h) ∧ (mv_1 = true → cs.sum < cs2.sum)) := fun st =>
            ⟨cs3, mv, _, _, rfl, d4, fun z => ⟨(h1 z).1, fun h hh => by
              by_cases e : h = i
              · rw [e, ← (h1 z).1]; exact st
              · exact (h1 z).2 h (by lia)⟩, h2⟩
          refine ⟨_, rfl, _, rfl, c, _, _, _, rfl, rfl, SqL.of d4.hc, csV_get hci, _, rfl, p, xs, rfl, .inl (SqL.of hx4), _, _, rfl, rfl, _, rfl, ?_⟩
          refine ite2 (fun hlt => ?_) (fun hlt => ?_)
          · have hlt : ((cs3[i] : Nat) : Int) < ((xs.length : Nat) : Int) := of_decide_eq_true hlt
            have hlr : cs3[i] < r.length := by lia
            have her : r[cs3[i]]? = some r[cs3[i]] := List.getElem?_eq_getElem hlr
            have hat : at? rs i cs3[i] = some r[cs3[i]] := by rw [at_row hr']; exact her
            obtain ⟨x, hxx, t, rfl, ht⟩ := Paired.getR m her
            refine ⟨_, rfl, _, rfl, _, rfl, c, _, _, _, rfl, rfl, SqL.of d4.hc, csV_get hci, p, xs, _, .ref t, rfl, rfl, SqL.of hx4, atI_nat hxx, _, rfl, _, rfl, ?_⟩
            refine ⟨t, sd, c, _, cs3, rs, rfl, d4.same _ _ ht, hSk _ d4.same, d4.hc, d4.rc.len, hU, fun hk => hT i _ _ hat hk, fun b hb => ⟨b, rfl, ?_⟩⟩
            cases b with
            | false =>
              refine iteF ?_
              refine out fun c' e' hc' he' fr => ?_
              rw [hci] at hc'; cases hc'
              rw [hat] at he'; cases he'
              exact absurd (hb.mpr fr) Bool.false_ne_true
            | true =>
              refine iteT ?_
              refine ⟨_, fun σ' H' z => z, ?_⟩
              refine ⟨_, rfl, _, rfl, c, _, _, _, rfl, rfl, SqL.of d4.hc, Int.natCast_nonneg _, csV_get hci, _, _, rfl, rfl, c, _, _, i, rfl, rfl, d4.hc, ixN_nat (by unfold csV; rw [List.length_map]; exact hil), ?_⟩
              have fr := hb.mp rfl
              have d5 := d4.step hc hci hat fr
              have es := sum_set hci
              have hs5 := d5.rc.sum
              exact ⟨_, by lia, _, true, rfl, d5, fun z => (nomatch z), fun _ => by lia, by lia, rfl⟩
          · refine iteF ?_
            refine out fun c' e' hc' he' fr => ?_
            rw [hci] at hc'; cases hc'
            rw [at_row hr'] at he'
            have := (List.getElem?_eq_some_iff.mp he').1
            exact hlt (decide_eq_true (by show ((cs3[i] : Nat) : Int) < ((xs.length : Nat) : Int); lia))
        · rintro σ H3 ⟨cs2, mv, v4, v5, rfl, d3, h1, h2⟩
          refine ⟨cs2, mv, v4, v5, rfl, d3, fun z => ?_, h2⟩
          obtain ⟨e, st⟩ := h1 z
          subst e
          intro h c' e' hc' he'
          refine st h ?_ c' e' hc' he'
          rw [List.length_map, hR.len, ← d3.rc.len]
          exact (List.getElem?_eq_some_iff.mp hc').1
end
end Cw

set_option Elab.async false
set_option linter.all false
set_option maxRecDepth 100000
set_option maxHeartbeats 4000000
namespace Cw
open PySem L2
noncomputable abbrev s_undone_ahead : Stmt := top 16
theorem sc_undone_ahead : FnScope ["rows", "sends", "counts", "one", "hand", "at"] ["rows", "sends", "counts", "one"] (defScope s_undone_ahead) := ⟨rfl, rfl, rfl, by decide +kernel, rfl, by decide +kernel, by decide +kernel⟩

noncomputable abbrev s_ring_behind : Stmt := top 15
theorem sc_ring_behind : FnScope ["rows", "sends", "counts", "start", "way_back", "one"] ["rows", "sends", "counts", "start"] (defScope s_ring_behind) := ⟨rfl, rfl, rfl, by decide +kernel, rfl, by decide +kernel, by decide +kernel⟩

noncomputable abbrev s_Ring_init : Stmt := inClass (top 4) 0
theorem sc_Ring_init : FnScope ["self", "events"] ["self", "events"] (defScope s_Ring_init) := ⟨rfl, rfl, rfl, by decide +kernel, rfl, by decide +kernel, by decide +kernel⟩

section
variable {P : Program} {w : World} {K : PySem.W.Frag} {mg : Str → Option Value} {base : Heap}
theorem ok_ring {fI C RE RI : Addr} {fd : FuncData} (F : Fun K "__init__" "Ring.__init__" s_Ring_init fI fd) (B : Bl mg) (Z : ExcG K mg C RE RI) (S : RingC K RE RI fI) : FnOk P w K mg base CX0 1 fI fd ["self", "events"] (sp_ring RI) := by
  have sc := sc_Ring_init
  refine F.ok sc (fun vs H Q E h => ?_) (fun cdv A outer s H vs Q E hr h => ?_)
  · obtain ⟨e, l, xs, rfl, _⟩ := h
    rfl
  · obtain ⟨e, l, xs, rfl, he, hl, hel, q⟩ := h
    refine ⟨_, (pss_cons (ps_expr (pe_sup (by rfl) Z.m_RecordError S.sup S.ini (pa_cons (pv 0) (pa_cons pe_str pa_nil))))
       (pss_one (ps_xfld S.ini S.ev (pv 0) (pe_callTy call_list_ofI (by rfl) (B "list" (by decide +kernel)) bt_list (pa_cons (pv 1) pa_nil)) rfl))), ?_⟩
    refine ⟨_, rfl, e, _, rfl, by decide, he, ?_⟩
    refine ⟨_, rfl, l, _, rfl, .inl (SqL.of hl), fun l2 hl2 => ?_⟩
    have s1 := Same.new (o := .lst xs) hl2
    refine ⟨_, rfl, e, rfl, s1 _ _ he, fun dx hdx hde => ?_⟩
    have e2 : l2 ≠ e := by rintro rfl; rw [he] at hl2; cases hl2
    have d2 : dx ≠ l2 := by rintro rfl; rw [upd_same] at hdx; cases hdx
    refine q dx l2 _ (fun b o z nb => ?_) (by rw [upd_ne hde.symm, upd_same]) upd_same (by rw [upd_ne d2.symm, upd_ne e2, upd_same]) ?_ hl2
    · rw [upd_ne (ne_of_none (s1 _ _ z) hdx), upd_ne nb]
      exact s1 _ _ z
    · rw [upd_ne d2] at hdx
      exact hdx
theorem ok_undone {f : Addr} {fd : FuncData} (F : Fun K "undone_ahead" "undone_ahead" s_undone_ahead f fd) (B : Bl mg) : FnOk P w K mg base CX0 1 f fd ["rows", "sends", "counts", "one"] sp_undone := by
  have sc := sc_undone_ahead
  refine F.ok sc (fun vs H Q E h => ?_) (fun cdv A outer s H vs Q E hr h => ?_)
  · obtain ⟨a, sd, c, t, ps, rs, cs, o, rfl, _⟩ := h
    rfl
  · obtain ⟨a, sd, c, t, ps, rs, cs, o, rfl, hR, ⟨kvs, hd, hm⟩, hU, hT, hc, hst, ht, hu0, q⟩ := h
    have hu := hu_of hr
    obtain ⟨⟨e, he⟩, c0, hc0, hle⟩ := hu0
    obtain ⟨r, hr', hre⟩ := at_some he
    obtain ⟨p, hp, xs, hxs, mx⟩ := hR.row hr'
    have hmp : (ps.map V.ref)[o.1]? = some (.ref p) := by rw [List.getElem?_map, hp]; rfl
    obtain ⟨x0, hx0, te, rfl, hte⟩ := Paired.getR mx hre
    refine ⟨_, (pss_cons (ps_set (i := 4) sc.nd rfl (Or.inl rfl) (pe_ix ix_tup (pv 3) pe_int (fun _ _ => rfl)))
       (pss_cons (ps_set (i := 5) sc.nd rfl (Or.inl rfl) (pe_ix ix_tup (pv 3) pe_int (fun _ _ => rfl)))
       (pss_cons (ps_if (pt_cmpR op_gt (pv 5) (pe_ix ix_list (pv 2) (pv 4) (fun _ _ => rfl)) (nomark _)) (pss_one (ps_ret (pe_tup (pa_cons (pv 4) (pa_cons (pe_op op_sub (pv 5) pe_int) pa_nil))))) pss_nil)
       (pss_one (ps_ret (pe_dget hu (pv 1) (pe_ix ix_tup (pe_ix ix_list (pe_ix ix_list (pv 0) (pv 4) (fun _ _ => rfl)) (pv 5) (fun _ _ => rfl)) pe_int (fun _ _ => rfl)) (fun _ _ => rfl))))))), ?_⟩
    refine ⟨_, rfl, t, _, 0, _, rfl, rfl, SqT.of ht, rfl, ?_⟩
    refine ⟨_, rfl, t, _, 1, _, rfl, rfl, SqT.of ht, rfl, ?_⟩
    refine ⟨_, rfl, _, rfl, _, rfl, c, _, _, _, rfl, rfl, SqL.of hc, csV_get hc0, _, _, rfl, rfl, _, rfl, ?_⟩
    refine ite2 (fun z => ?_) (fun z => ?_)
    · have z : ((c0 : Nat) : Int) < ((o.2 : Nat) : Int) := of_decide_eq_true z
      refine ⟨_, rfl, _, rfl, _, _, rfl, rfl, (by show 2 ≤ sizeLine; decide), fun t' ht' => ?_⟩
      refine q t' (o.1, o.2 - 1) _ (Same.new ht') ?_ (.inl ⟨c0, hc0, by lia, rfl⟩)
      rw [upd_same]
      have e1 : ((o.2 : Nat) : Int) - 1 = ((o.2 - 1 : Nat) : Int) := by lia
      show some (HO.tup [.int (o.1 : Nat), .int (((o.2 : Nat) : Int) - 1)]) = some (.tup [.int (o.1 : Nat), .int ((o.2 - 1 : Nat) : Int)])
      rw [e1]
    · have z : ¬ ((c0 : Nat) : Int) < ((o.2 : Nat) : Int) := fun y => z (decide_eq_true y)
      have ec : c0 = o.2 := by lia
      subst ec
      have tk := stuck_take hst hc0 he
      obtain ⟨h', p', e', ha, hk', hl'⟩ := hT _ _ _ he tk
      obtain ⟨t2, hv, ht2⟩ := pl_some hm (places_nodup hU) (mem_places.mpr ⟨e', ha, hk', hl'⟩)
      exact ⟨_, rfl, _, rfl, _, rfl, a, _, _, _, rfl, rfl, SqL.of hR.top, atI_nat hmp, _, rfl, p, _, _, _, rfl, rfl, SqL.of hxs, atI_nat hx0, te, _, 1, _, rfl, rfl, SqT.of hte, rfl, sd, _, rfl, .inl ⟨kvs, .inl e.l, hd, rfl, hv.symm⟩, q t2 (h', p') H (Same.refl _) ht2 (.inr ⟨_, e, e', hc0, rfl, he, ha, hk', hl'⟩)⟩
end
end Cw

set_option Elab.async false
set_option linter.all false
set_option maxRecDepth 100000
set_option maxHeartbeats 4000000
namespace Cw
open PySem L2
section
variable {P : Program} {w : World} {K : PySem.W.Frag} {mg : Str → Option Value} {base : Heap}
theorem ok_rback {f : Addr} {fd : FuncData} (F : Fun K "ring_behind" "ring_behind" s_ring_behind f fd) (B : Bl mg) (D_undone_ahead : Df P w K mg base 1 "undone_ahead" ["rows", "sends", "counts", "one"] sp_undone) : FnOk P w K mg base CX0 2 f fd ["rows", "sends", "counts", "start"] sp_rback := by
  have sc := sc_ring_behind
  refine F.ok sc (fun vs H Q E h => ?_) (fun cdv A outer s H vs Q E hr h => ?_)
  · obtain ⟨a, sd, c, t, ps, rs, cs, o, rfl, _⟩ := h
    rfl
  · obtain ⟨a, sd, c, t, ps, rs, cs, o, rfl, hR, hB, hS, hU, hT, hc, rc, hst, ht, hu0, q⟩ := h
    have hSk : ∀ H2, Same H H2 → SendsA H2 sd rs := fun H2 s2 => by
      obtain ⟨kvs, rd, m⟩ := hS
      refine ⟨kvs, ?_, Paired.mapP m fun x y z => z.keep (S := fun _ => False) (fun b o e _ => s2 b o e) (fun _ _ z => z.elim)⟩
      rcases rd with rd | ⟨o, rd⟩
      · exact .inl (s2 _ _ rd)
      · exact .inr ⟨o, s2 _ _ rd⟩
    refine ⟨_, (pss_cons (ps_set (i := 4) sc.nd rfl (Or.inl rfl) (pe_lst pa_nil))
       (pss_cons (ps_set (i := 5) sc.nd rfl (Or.inl rfl) (pv 3))
       (pss_cons (ps_while PassesOwn.never (pt_cmpR (op_notInM (EqOk.flat).tup (un_of hr)) (pv 5) (pv 4) (by with_unfolding_all rfl)) (pss_cons (ps_expr (pe_bm PySem.F.plainAttrs_list PySem.F.slot_list_append PySem.F.type_list_append mt_append (pv 4) (pa_cons (pv 5) pa_nil)))
       (pss_one (ps_set (i := 5) sc.nd rfl (Or.inl rfl) (pe_df D_undone_ahead (hr.mono (by decide)) (pa_cons (pv 0) (pa_cons (pv 1) (pa_cons (pv 2) (pa_cons (pv 5) pa_nil)))))))))
       (pss_one (ps_ret (pe_callTy (call_listRev rfl) (by rfl) (B "list" (by decide +kernel)) bt_list (pa_cons (pe_callTy call_reversed (by rfl) (B "reversed" (by decide +kernel)) bt_reversed (pa_cons (pe_slice sl_list (pv 4) (po_some (pe_bm PySem.F.plainAttrs_list PySem.F.slot_list_index PySem.F.type_list_index (mt_index (EqOk.flat).tup (un_of hr)) (pv 4) (pa_cons (pv 5) pa_nil))) po_none) pa_nil)) pa_nil))))))), ?_⟩
    refine ⟨Nat.zero_le _, fun wl hwl => ?_⟩
    refine ⟨_, rfl, ?_⟩
    have s0 := Same.new (o := .lst []) hwl
    refine ⟨fun m σ H2 => ∃ W cur t', σ = [some (.ref a), some (.ref sd), some (.ref c), some (.ref t), some (.ref wl), some (.ref t')] ∧ Same H H2 ∧ EvsA H2 wl W ∧ H2 t' = some (.tup (posV cur)) ∧ Back rs W cur ∧ Undone rs cs cur ∧ m = 25 - W.length,
      ⟨_, [], o, t, rfl, s0, ⟨[], upd_same, .nil⟩, s0 _ _ ht, Back.zero hu0.1, hu0, rfl⟩, ?_⟩
    rintro m σ H2 ⟨W, cur, t', rfl, s2, hE, htc, hb, hun, rfl⟩
    obtain ⟨xs, hxs, mx⟩ := id hE
    have hxl := Paired.length mx
    have hwlen := back_len hB hb.nd hb.has
    refine ⟨_, rfl, _, rfl, _, _, pos_mean K htc, evs_mean K hE, _, em_not, ?_⟩
    by_cases hin : cur ∈ W
    · refine iteNS hin ?_
      obtain ⟨j, hj, hjm, hno⟩ := first_at hb.nd hin
      have hjl : j < W.length := (List.getElem?_eq_some_iff.mp hj).1
      refine ⟨_, rfl, _, rfl, .inl ⟨rfl, _, SqL.of hxs⟩, _, rfl, _, _, _, j, rfl, pos_mean K htc, evs_mean K hE, hjm, hno, _, rfl, wl, xs, rfl, SqL.of hxs, fun pc hpc => ?_⟩
      rw [cut_back (by lia)]
      refine ⟨pc, _, rfl, SqL.of upd_same, fun ra hra => ?_⟩
      have pra : pc ≠ ra := by rintro rfl; rw [upd_same] at hra; cases hra
      refine ⟨ra, pc, _, rfl, upd_same, SqL.of (by rw [upd_ne pra]; exact upd_same), fun r hr2 => ?_⟩
      have nw : ∀ b u, H2 b = some u → L2.upd (L2.del (L2.upd (L2.upd H2 pc (.lst (xs.drop j))) ra (rvO s.heap.objs.size ra pc (xs.drop j).length)) ra) r (.lst (xs.drop j).reverse) b = some u := fun b u z => by
        have z1 : b ≠ ra := by
          rintro rfl
          rw [upd_ne (ne_of_none z hpc), z] at hra; cases hra
        have z2 : L2.upd (L2.upd H2 pc (.lst (xs.drop j))) ra (rvO s.heap.objs.size ra pc (xs.drop j).length) b = some u := by rw [upd_ne z1, upd_ne (ne_of_none z hpc)]; exact z
        rw [upd_ne (ne_of_none z2 hr2), del_ne z1]
        exact z2
      have r0 : H r = none := by
        cases q2 : H r with
        | none => rfl
        | some u =>
          have z := s2 _ _ q2
          have z1 : r ≠ ra := by
            rintro rfl
            rw [upd_ne (ne_of_none z hpc), z] at hra; cases hra
          rw [upd_ne z1, upd_ne (ne_of_none z hpc), z] at hr2; cases hr2
      refine q r _ _ (fun b u z => nw b u (s2 _ _ z)) r0 ⟨_, upd_same, ?_⟩ (hb.ring hj)
      refine Paired.rev (Paired.dropP j (Paired.mapP mx fun x y ⟨tt, e1, e2⟩ => ⟨tt, e1, nw _ _ e2⟩))
    · rw [decide_eq_false hin]
      refine iteT ?_
      refine ⟨_, fun σ' H' z => z, ?_⟩
      refine ⟨_, rfl, .inl ⟨rfl, _, SqL.of hxs⟩, _, rfl, wl, xs, .ref t', rfl, rfl, hxs, small1000 (by lia), ?_⟩
      obtain ⟨s3, hE3⟩ := evs_more s2 hwl hxs mx htc
      have ne : t' ≠ wl := by rintro rfl; rw [hxs] at htc; cases htc
      have htc3 : L2.upd H2 wl (.lst (xs ++ [.ref t'])) t' = some (.tup (posV cur)) := by rw [upd_ne ne]; exact htc
      generalize L2.upd H2 wl (.lst (xs ++ [.ref t'])) = H3 at s3 hE3 htc3
      refine ⟨_, rfl, _, rfl, _, rfl, _, rfl, a, sd, c, t', ps, rs, cs, cur, rfl, hR.same s3, hSk _ s3, hU, hT, s3 _ _ hc, hst, htc3, hun, fun t2 o' H4 s4 ht4 ha => ?_⟩
      obtain ⟨u', st'⟩ := ha.step rc hst hun
      have hb' := hb.snoc hin st'
      have hlen' := back_len hB hb'.nd hb'.has
      rw [List.length_append, List.length_singleton] at hlen'
      exact ⟨_, by rw [List.length_append, List.length_singleton]; lia, W ++ [cur], o', t2, rfl, s3.trans s4, hE3.same s4, ht4, hb', u', rfl⟩
end
end Cw

set_option Elab.async false
set_option linter.all false
set_option maxRecDepth 100000
set_option maxHeartbeats 4000000
namespace Cw
open PySem L2
section
variable {P : Program} {w : World} {K : PySem.W.Frag} {mg : Str → Option Value} {base : Heap}
theorem ok_ringR {f : Addr} {fd : FuncData} (F : Fun K "find_ring" "find_ring" s_find_ring f fd) (B : Bl mg) (D_counts_done : Df P w K mg base 2 "counts_done" ["rows", "sends"] sp_done) (D_ring_behind : Df P w K mg base 2 "ring_behind" ["rows", "sends", "counts", "start"] sp_rback) : FnOk P w K mg base CX0 3 f fd ["rows", "sends"] sp_ringR := by
  have sc := sc_find_ring
  refine F.ok sc (fun vs H Q E h => ?_) (fun cdv A outer s H vs Q E hr h => ?_)
  · obtain ⟨a, sd, ps, rs, rfl, _⟩ := h
    rfl
  · obtain ⟨a, sd, ps, rs, rfl, hR, hB, hS, hU, hT, q, qR⟩ := h
    have hSk : ∀ H2, Same H H2 → SendsA H2 sd rs := fun H2 s2 => by
      obtain ⟨kvs, rd, m⟩ := hS
      refine ⟨kvs, ?_, Paired.mapP m fun x y z => z.keep (S := fun _ => False) (fun b o e _ => s2 b o e) (fun _ _ z => z.elim)⟩
      rcases rd with rd | ⟨o, rd⟩
      · exact .inl (s2 _ _ rd)
      · exact .inr ⟨o, s2 _ _ rd⟩
    refine ⟨_, (pss_cons (ps_set (i := 2) sc.nd rfl (Or.inl rfl) (pe_df D_counts_done (hr.mono (by decide)) (pa_cons (pv 0) (pa_cons (pv 1) pa_nil))))
       (pss_cons (ps_for PassesOwn.never rfl (pi_enum rfl (B "enumerate" (by decide +kernel)) (pv 0)) (pg_tup rfl (pgs_cons (pg_name (i := 3) sc.nd rfl (Or.inl rfl)) (pgs_cons (pg_name (i := 4) sc.nd rfl (Or.inl rfl)) pgs_nil))) (pss_one (ps_if (pt_cmpR op_lt (pe_ix ix_list (pv 2) (pv 3) (fun _ _ => rfl)) (pe_callB call_len_seqI (by rfl) (B "len" (by decide +kernel)) bt_len (pa_cons (pv 4) pa_nil)) (nomark _)) (pss_one (ps_ret (pe_df D_ring_behind (hr.mono (by decide)) (pa_cons (pv 0) (pa_cons (pv 1) (pa_cons (pv 2) (pa_cons (pe_tup (pa_cons (pv 3) (pa_cons (pe_ix ix_list (pv 2) (pv 3) (fun _ _ => rfl)) pa_nil))) pa_nil))))))) pss_nil)))
       (pss_one (ps_ret pe_non)))), ?_⟩
    refine ⟨_, rfl, _, rfl, a, sd, ps, rs, rfl, hR, hS, hU, hT, by have := hB.hi; lia, fun c cs H1 s1 hc0 hc rc st => ?_⟩
    refine ⟨_, rfl, a, rfl, ⟨_, SqL.of (s1 _ _ hR.top)⟩, for_enum (K := K) (a := a) (xs := ps.map V.ref) (fun i σ H3 => Same H1 H3 ∧ (∀ (h : Nat) (r : List Ev), h < i → rs[h]? = some r → cs[h]? = some r.length) ∧ ∃ v4 v5, σ = [some (.ref a), some (.ref sd), some (.ref c), v4, v5])
      ⟨Same.refl _, fun h r z => absurd z (Nat.not_lt_zero _), _, _, rfl⟩ (fun i σ H3 _ ⟨s3, _⟩ => SqL.of (s3 _ _ (s1 _ _ hR.top))) ?_ ?_⟩
    · rintro i y σ H3 pe hi ⟨s3, hall, v4, v5, rfl⟩ hpe
      obtain ⟨p, hp, rfl⟩ := map_ref hi
      obtain ⟨r, hr', xs, hx, m⟩ := hR.get hp
      have hxl := Paired.length m
      have s4 := s3.trans (Same.new (o := .tup [.int (i : Nat), .ref p]) hpe)
      have hil : i < cs.length := by rw [rc.len]; exact (List.getElem?_eq_some_iff.mp hr').1
      have hci : cs[i]? = some cs[i] := List.getElem?_eq_getElem hil
      have hle := rc.le i _ r hci hr'
      refine ⟨pe, _, rfl, SqT.of upd_same, rfl, _, _, rfl, _, _, rfl, rfl, ?_⟩
      refine ⟨_, rfl, _, rfl, c, _, _, _, rfl, rfl, SqL.of (s4 _ _ hc), csV_get hci, _, rfl, p, xs, rfl, .inl (SqL.of (s4 _ _ (s1 _ _ hx))), _, _, rfl, rfl, _, rfl, ?_⟩
      refine ite2 (fun hlt => ?_) (fun hlt => ?_)
      · have hlt : ((cs[i] : Nat) : Int) < ((xs.length : Nat) : Int) := of_decide_eq_true hlt
        have hs4 := s1.trans s4
        refine ⟨_, rfl, _, rfl, _, rfl, _, rfl, _, rfl, _, rfl, c, _, _, _, rfl, rfl, SqL.of (s4 _ _ hc), csV_get hci, (by show 2 ≤ sizeLine; decide), fun t ht => ?_⟩
        have s5 := Same.new (o := .tup [.int (i : Nat), .int (cs[i] : Nat)]) ht
        have hun : Undone rs cs (i, cs[i]) := by
          refine ⟨⟨r[cs[i]]'(by lia), ?_⟩, cs[i], hci, Nat.le_refl _⟩
          show at? rs i cs[i] = _
          rw [at_row hr']
          exact List.getElem?_eq_getElem _
        refine ⟨a, sd, c, t, ps, rs, cs, (i, cs[i]), rfl, hR.same (hs4.trans s5), hB, hSk _ (hs4.trans s5), hU, hT, s5 _ _ (s4 _ _ hc), rc, st, upd_same, hun, fun f l H6 s6 hf0 hE hring => ?_⟩
        exact qR f l H6 ((hs4.trans s5).trans s6) ((hs4.trans s5).free hf0) hE hring
      · refine ⟨s4, fun h r2 hh hr2 => ?_, _, _, rfl⟩
        by_cases e : h = i
        · subst e
          rw [hr'] at hr2; cases hr2
          have : ¬ ((cs[h] : Nat) : Int) < ((xs.length : Nat) : Int) := fun z => hlt (decide_eq_true z)
          rw [hci]
          congr 1
          lia
        · exact hall h r2 (by lia) hr2
    · rintro σ H3 ⟨s3, hall, v4, v5, rfl⟩
      refine q H3 cs (s1.trans s3) rc fun h r hr2 => hall h r ?_ hr2
      rw [List.length_map, hR.len]
      exact (List.getElem?_eq_some_iff.mp hr2).1
end
end Cw

set_option Elab.async false
set_option linter.all false
set_option maxRecDepth 100000
set_option maxHeartbeats 4000000
namespace Cw
open PySem L2
noncomputable abbrev s_law_events : Stmt := top 33
theorem sc_law_events : FnScope ["rows", "found", "hand", "at"] ["rows"] (defScope s_law_events) := ⟨rfl, rfl, rfl, by decide +kernel, rfl, by decide +kernel, by decide +kernel⟩

section
variable {P : Program} {w : World} {K : PySem.W.Frag} {mg : Str → Option Value} {base : Heap}
noncomputable def inv_events_1 (H : L2.Hp) (f : PySem.Addr) (rs : Cw.Rows) (a : PySem.Addr) : Nat → St → Hp → Prop := fun i σ H2 => Same H H2 ∧ EvsA H2 f (evsFar rs i 0) ∧ ∃ v2 v3, σ = [some (.ref a), some (.ref f), v2, v3]
noncomputable def inv_events_2 (H : L2.Hp) (f : PySem.Addr) (rs : Cw.Rows) (i : Nat) (a : PySem.Addr) : Nat → St → Hp → Prop := fun j σ H3 => Same H H3 ∧ EvsA H3 f (evsFar rs i j) ∧ ∃ v3, σ = [some (.ref a), some (.ref f), some (.int (i : Nat)), v3]
theorem ok_events {f : Addr} {fd : FuncData} (F : Fun K "_law_events" "_law_events" s_law_events f fd) (B : Bl mg) : FnOk P w K mg base CX0 1 f fd ["rows"] sp_events := by
  have sc := sc_law_events
  refine F.ok sc (fun vs H Q E h => ?_) (fun cdv A outer s H vs Q E hr h => ?_)
  · obtain ⟨a, ps, rs, rfl, _⟩ := h
    rfl
  · obtain ⟨a, ps, rs, rfl, hR, hB, q⟩ := h
    have hl4 := hB.hi
    have hpl : (((ps.map V.ref).length : Nat) : Int) ≤ 4 := by rw [List.length_map, hR.len]; lia
    refine ⟨_, (pss_cons (ps_set (i := 1) sc.nd rfl (Or.inl rfl) (pe_lst pa_nil))
       (pss_cons (ps_for PassesOwn.never rfl (pi_range1 rfl (B "range" (by decide +kernel)) (pa_cons (pe_callB call_len_seqI (by rfl) (B "len" (by decide +kernel)) bt_len (pa_cons (pv 0) pa_nil)) pa_nil)) (pg_name (i := 2) sc.nd rfl (Or.inl rfl)) (pss_one (ps_for PassesOwn.never rfl (pi_range1 rfl (B "range" (by decide +kernel)) (pa_cons (pe_callB call_len_seqI (by rfl) (B "len" (by decide +kernel)) bt_len (pa_cons (pe_ix ix_list (pv 0) (pv 2) (fun _ _ => rfl)) pa_nil)) pa_nil)) (pg_name (i := 3) sc.nd rfl (Or.inl rfl)) (pss_one (ps_expr (pe_bm PySem.F.plainAttrs_list PySem.F.slot_list_append PySem.F.type_list_append mt_append (pv 1) (pa_cons (pe_tup (pa_cons (pv 2) (pa_cons (pv 3) pa_nil))) pa_nil)))))))
       (pss_one (ps_ret (pv 1))))), ?_⟩
    refine ⟨Nat.zero_le _, fun f hf => ?_⟩
    refine ⟨_, rfl, a, _, rfl, .inl (SqL.of (Same.new hf _ _ hR.top)), _, rfl, by lia, by lia, for_range (lo := 0) (n := (ps.map V.ref).length) (inv_events_1 H f rs a)
      ⟨Same.new hf, ⟨[], upd_same, .nil⟩, _, _, rfl⟩ ?_ ?_⟩
    · rintro i σ H2 hi ⟨s2, hE, v2, v3, rfl⟩
      rw [show (0 : Int) + ((i : Nat) : Int) = ((i : Nat) : Int) from Int.zero_add _]
      rw [List.length_map, hR.len] at hi
      have hri : rs[i]? = some rs[i] := List.getElem?_eq_getElem hi
      obtain ⟨p, hp, xs, hxs, m⟩ := hR.row hri
      have hmp : (ps.map V.ref)[i]? = some (.ref p) := by rw [List.getElem?_map, hp]; rfl
      have hxl := Paired.length m
      have hl6 := hB.len i _ hri
      refine ⟨_, rfl, _, rfl, a, _, _, _, rfl, rfl, SqL.of (s2 _ _ hR.top), atI_nat hmp, p, xs, rfl, .inl (SqL.of (s2 _ _ hxs)), _, rfl, by lia, by lia, for_range (lo := 0) (n := xs.length) (inv_events_2 H f rs i a)
        ⟨s2, hE, _, rfl⟩ ?_ ?_⟩
      · rintro j σ H3 hj ⟨s3, ⟨ys, hys, my⟩, v3, rfl⟩
        rw [show (0 : Int) + ((j : Nat) : Int) = ((j : Nat) : Int) from Int.zero_add _]
        refine ⟨_, rfl, .inl ⟨rfl, _, SqL.of hys⟩, _, rfl, _, rfl, (by show 2 ≤ sizeLine; decide), fun t ht => ?_⟩
        have s4 := Same.new (o := .tup [.int (i : Nat), .int (j : Nat)]) ht
        refine ⟨f, ys, .ref t, rfl, rfl, s4 _ _ hys, small1000 (by have := Paired.length my; have := evsFar_len hB i j (by lia) (by lia); lia), ?_⟩
        obtain ⟨e1, e2⟩ := evs_more (o := (i, j)) (s3.trans s4) hf (s4 _ _ hys) (Paired.mapP my fun _ _ z => z.same s4) upd_same
        refine ⟨e1, ?_, _, rfl⟩
        rw [evsFar_ev]
        exact e2
      · rintro σ H3 ⟨s3, hE3, v3, rfl⟩
        refine ⟨s3, ?_, _, _, rfl⟩
        rw [hxl, evsFar_row hri] at hE3
        exact hE3
    · rintro σ H2 ⟨s2, hE, v2, v3, rfl⟩
      rw [List.length_map, hR.len, evsFar_all] at hE
      exact ⟨_, rfl, q f H2 s2 hf hE⟩
end
end Cw

set_option Elab.async false
set_option linter.all false
set_option maxRecDepth 100000
set_option maxHeartbeats 4000000
namespace Cw
open PySem L2
noncomputable abbrev s_law_send : Stmt := top 34
theorem sc_law_send : FnScope ["rows", "letter", "one"] ["rows", "letter"] (defScope s_law_send) := ⟨rfl, rfl, rfl, by decide +kernel, rfl, by decide +kernel, by decide +kernel⟩

section
variable {P : Program} {w : World} {K : PySem.W.Frag} {mg : Str → Option Value} {base : Heap}
noncomputable def inv_send_1 (H1 : L2.Hp) (a : PySem.Addr) (l : Int) (rs : Cw.Rows) : Nat → St → Hp → Prop := fun j σ H2 => Same H1 H2 ∧ (∃ v, σ = [some (.ref a), some (.int l), v]) ∧ ∀ (i : Nat) (o : Pl) (e : Ev), i < j → (evs rs)[i]? = some o → at? rs o.1 o.2 = some e → e.k = .send → e.l ≠ l
theorem ok_send {f : Addr} {fd : FuncData} (F : Fun K "_law_send" "_law_send" s_law_send f fd) (B : Bl mg) (D_law_events : Df P w K mg base 1 "_law_events" ["rows"] sp_events) : FnOk P w K mg base CX0 2 f fd ["rows", "letter"] sp_send := by
  have sc := sc_law_send
  refine F.ok sc (fun vs H Q E h => ?_) (fun cdv A outer s H vs Q E hr h => ?_)
  · obtain ⟨a, ps, rs, l, rfl, _⟩ := h
    rfl
  · obtain ⟨a, ps, rs, l, rfl, hR, hB, q⟩ := h
    refine ⟨_, (pss_cons (ps_for PassesOwn.never rfl (pi_list (pe_df D_law_events (hr.mono (by decide)) (pa_cons (pv 0) pa_nil))) (pg_name (i := 2) sc.nd rfl (Or.inl rfl)) (pss_one (ps_if (pt_cmpR (op_eqT EqOk.flat (un_of hr)) (pe_slice sl_tup (pe_ix ix_list (pe_ix ix_list (pv 0) (pe_ix ix_tup (pv 2) pe_int (fun _ _ => rfl)) (fun _ _ => rfl)) (pe_ix ix_tup (pv 2) pe_int (fun _ _ => rfl)) (fun _ _ => rfl)) po_none (po_some pe_int)) (pe_tup (pa_cons pe_str (pa_cons (pv 1) pa_nil))) (nomark _)) (pss_one (ps_ret (pv 2))) pss_nil)))
       (pss_one (ps_ret pe_non))), ?_⟩
    refine ⟨_, rfl, a, ps, rs, rfl, hR, hB, fun g H1 s1 hg hE => ?_⟩
    obtain ⟨zs, hzs, mz⟩ := id hE
    have hzl := Paired.length mz
    refine ⟨g, rfl, ⟨_, SqL.of hzs⟩, for_list (K := K) (a := g) (xs := zs) (inv_send_1 H1 a l rs)
      ⟨Same.refl _, ⟨_, rfl⟩, fun i o e hi => absurd hi (Nat.not_lt_zero _)⟩ (fun j σ H2 _ ⟨s2, _⟩ => SqL.of (s2 _ _ hzs)) ?_ ?_⟩
    · rintro j y σ H2 hj ⟨s2, ⟨v, rfl⟩, hno⟩
      obtain ⟨o, ho, t, rfl, ht⟩ := Paired.get mz hj
      obtain ⟨e, he⟩ := mem_evs'.mp (List.mem_of_getElem? ho)
      have s12 := s1.trans s2
      have R2 := hR.same s12
      have ht2 : H2 t = some (.tup (posV o)) := s2 _ _ ht
      obtain ⟨rp, xs, te, hm, hx, hy, hte⟩ := R2.ev he
      refine ⟨_, rfl, _, rfl, t, _, 0, _, rfl, rfl, SqT.of ht2, rfl, a, _, _, _, rfl, rfl, SqL.of R2.top, atI_nat hm, _, rfl, t, _, 1, _, rfl, rfl, SqT.of ht2, rfl, rp, xs, _, _, rfl, rfl, SqL.of hx, atI_nat hy, _, rfl, te, _, rfl, SqT.of hte, head_part e, fun p hp => ?_⟩
      rw [head_cut]
      have s3 := Same.new (o := .tup [.str e.k.str, .int e.l]) hp
      refine ⟨_, rfl, (by show 2 ≤ sizeLine; decide), fun p2 hp2 => ?_⟩
      have s4 := Same.new (o := .tup [.str Kd.send.str, .int l]) hp2
      refine ⟨_, _, head_mean K (k := e.k) (s4 _ _ upd_same), head_mean K (k := .send) upd_same, _, rfl, ?_⟩
      rw [head_dec]
      refine ite2 (fun h1 => ?_) (fun h1 => ?_)
      · obtain ⟨z1, z2⟩ := of_decide_eq_true h1
        exact ⟨_, rfl, q _ _ (s12.trans (s3.trans s4)) (.inl ⟨t, o, e, rfl, s4 _ _ (s3 _ _ ht2), he, z1, z2⟩)⟩
      · refine ⟨s2.trans (s3.trans s4), ⟨_, rfl⟩, fun i o' e' hi ho' he' hk hl => ?_⟩
        by_cases ei : i = j
        · subst ei
          rw [ho] at ho'
          cases ho'
          rw [he] at he'
          cases he'
          exact h1 (decide_eq_true ⟨hk, hl⟩)
        · exact hno i o' e' (by lia) ho' he' hk hl
    · rintro σ H2 ⟨s2, ⟨v, rfl⟩, hno⟩
      refine q .non H2 (s1.trans s2) (.inr ⟨rfl, fun o e he hk => ?_⟩)
      obtain ⟨i, hi⟩ := List.getElem?_of_mem (mem_evs'.mpr ⟨e, he⟩)
      exact hno i o e (by rw [hzl]; exact (List.getElem?_eq_some_iff.mp hi).1) hi he hk
end
end Cw

set_option Elab.async false
set_option linter.all false
set_option maxRecDepth 100000
set_option maxHeartbeats 4000000
namespace Cw
open PySem L2
noncomputable abbrev s_law_ends : Stmt := top 41
theorem sc_law_ends : FnScope ["rows", "done", "turn", "one", "event", "good"] ["rows"] (defScope s_law_ends) := ⟨rfl, rfl, rfl, by decide +kernel, rfl, by decide +kernel, by decide +kernel⟩

section
variable {P : Program} {w : World} {K : PySem.W.Frag} {mg : Str → Option Value} {base : Heap}
theorem ok_ends {f : Addr} {fd : FuncData} (F : Fun K "_law_ends" "_law_ends" s_law_ends f fd) (B : Bl mg) (D_law_events : Df P w K mg base 1 "_law_events" ["rows"] sp_events) (D_law_send : Df P w K mg base 2 "_law_send" ["rows", "letter"] sp_send) : FnOk P w K mg base CX0 3 f fd ["rows"] sp_ends := by
  have sc := sc_law_ends
  refine F.ok sc (fun vs H Q E h => ?_) (fun cdv A outer s H vs Q E hr h => ?_)
  · obtain ⟨a, ps, rs, rfl, _⟩ := h
    rfl
  · obtain ⟨a, ps, rs, rfl, hR, hB, hus, hst, q⟩ := h
    have hen := evs_len hB
    refine ⟨_, (pss_cons (ps_set (i := 1) sc.nd rfl (Or.inl rfl) (pe_lst pa_nil))
       (pss_cons (ps_for PassesOwn.never rfl (pi_range1 rfl (B "range" (by decide +kernel)) (pa_cons (pe_callB call_len_seqI (by rfl) (B "len" (by decide +kernel)) bt_len (pa_cons (pe_df D_law_events (hr.mono (by decide)) (pa_cons (pv 0) pa_nil)) pa_nil)) pa_nil)) (pg_name (i := 2) sc.nd rfl (Or.inl rfl)) (pss_one (ps_for PassesOwn.never rfl (pi_list (pe_df D_law_events (hr.mono (by decide)) (pa_cons (pv 0) pa_nil))) (pg_name (i := 3) sc.nd rfl (Or.inl rfl)) (pss_cons (ps_set (i := 4) sc.nd rfl (Or.inl rfl) (pe_ix ix_list (pe_ix ix_list (pv 0) (pe_ix ix_tup (pv 3) pe_int (fun _ _ => rfl)) (fun _ _ => rfl)) (pe_ix ix_tup (pv 3) pe_int (fun _ _ => rfl)) (fun _ _ => rfl)))
       (pss_cons (ps_set (i := 5) sc.nd rfl (Or.inl rfl) (pe_or (pe_cmpR op_eq (pe_ix ix_tup (pv 3) pe_int (fun _ _ => rfl)) pe_int (nomark _)) (pe_one (pe_cmpR (op_inM (EqOk.flat).tup (un_of hr)) (pe_tup (pa_cons (pe_ix ix_tup (pv 3) pe_int (fun _ _ => rfl)) (pa_cons (pe_op op_sub (pe_ix ix_tup (pv 3) pe_int (fun _ _ => rfl)) pe_int) pa_nil))) (pv 1) (by with_unfolding_all rfl)))))
       (pss_cons (ps_if (pt_cmpR op_eq (pe_ix ix_tup (pv 4) pe_int (fun _ _ => rfl)) pe_str (nomark _)) (pss_one (ps_set (i := 5) sc.nd rfl (Or.inl rfl) (pe_and (pv 5) (pe_one (pe_cmpR (op_inM (EqOk.flat).tup (un_of hr)) (pe_df D_law_send (hr.mono (by decide)) (pa_cons (pv 0) (pa_cons (pe_ix ix_tup (pv 4) pe_int (fun _ _ => rfl)) pa_nil))) (pv 1) (by with_unfolding_all rfl)))))) pss_nil)
       (pss_one (ps_if ((pw_and (pt_val (pv 5)) (pw_and1 (pt_cmpR (op_notInM (EqOk.flat).tup (un_of hr)) (pv 3) (pv 1) (by with_unfolding_all rfl))))).pt (pss_one (ps_expr (pe_bm PySem.F.plainAttrs_list PySem.F.slot_list_append PySem.F.type_list_append mt_append (pv 1) (pa_cons (pv 3) pa_nil)))) pss_nil))))))))
       (pss_one (ps_ret (pe_cmpR op_eq (pe_callB call_len_seqI (by rfl) (B "len" (by decide +kernel)) bt_len (pa_cons (pv 1) pa_nil)) (pe_callB call_len_seqI (by rfl) (B "len" (by decide +kernel)) bt_len (pa_cons (pe_df D_law_events (hr.mono (by decide)) (pa_cons (pv 0) pa_nil)) pa_nil)) (nomark _)))))), ?_⟩
    refine ⟨Nat.zero_le _, fun dn hdn => ?_⟩
    have s1 := Same.new (o := .lst []) hdn
    refine ⟨_, rfl, a, ps, rs, rfl, hR.same s1, hB, fun fe H2 s2 hfe0 hE => ?_⟩
    obtain ⟨xe, hxe, me⟩ := id hE
    have hxl := Paired.length me
    refine ⟨fe, _, rfl, .inl (SqL.of hxe), _, rfl, by lia, by lia, for_range (lo := 0) (n := xe.length) (fun t σ H3 => ∃ W v2 v3 v4 v5, σ = [some (.ref a), some (.ref dn), v2, v3, v4, v5] ∧ Same H H3 ∧ EvsA H3 dn W ∧ DoneL rs W ∧ ((∃ rk, Ord rs rk) → t ≤ W.length))
      ⟨[], _, _, _, _, rfl, s1.trans s2, ⟨[], s2 _ _ upd_same, .nil⟩, .nil, fun _ => Nat.zero_le _⟩ ?_ ?_⟩
    · rintro t σ H3 ht ⟨W, v2, v3, v4, v5, rfl, s3, hW, dW, oW⟩
      refine ⟨_, rfl, a, ps, rs, rfl, hR.same s3, hB, fun fi H4 s4 hfi0 hI => ?_⟩
      obtain ⟨xi, hxi, mi⟩ := id hI
      have hil := Paired.length mi
      have hdi : fi ≠ dn := by
        rintro rfl
        obtain ⟨_, z, _⟩ := hW
        rw [z] at hfi0
        cases hfi0
      refine ⟨fi, rfl, ⟨_, SqL.of hxi⟩, for_list (K := K) (a := fi) (xs := xi) (fun k σ H5 => ∃ W' v3 v4 v5, σ = [some (.ref a), some (.ref dn), some (.int (0 + ((t : Nat) : Int))), v3, v4, v5] ∧ Same H H5 ∧ H5 fi = some (.lst xi) ∧ Paired (PosAt H5) xi (evs rs) ∧ EvsA H5 dn W' ∧ DoneL rs W' ∧ (∀ o ∈ W, o ∈ W') ∧ ∀ o ∈ (evs rs).take k, Ready rs W o → o ∈ W')
        ⟨W, _, _, _, rfl, s3.trans s4, hxi, mi, hW.same s4, dW, fun o z => z, fun o z => (nomatch z)⟩ (fun k σ H5 _ ⟨_, _, _, _, _, _, z, _⟩ => SqL.of z) ?_ ?_⟩
      · rintro k y σ H5 hk ⟨W', v3, v4, v5, rfl, s5, hx5, m5, hW5, dW', sub, all⟩
        obtain ⟨o, ho, u, rfl, hu⟩ := Paired.get m5 hk
        have hu : H5 u = some (.tup (posV o)) := hu
        have hO := mem_evs'.mp (List.mem_of_getElem? ho)
        obtain ⟨e, he⟩ := id hO
        have R5 := hR.same s5
        obtain ⟨rp, xs, te, g1, g2, g3, g4⟩ := R5.ev he
        have w24 := back_len hB dW'.nd dW'.has
        obtain ⟨ys, hy, my⟩ := id hW5
        have hyl := Paired.length my
        have hyf : dn ≠ fi := Ne.symm hdi
        refine ⟨_, rfl, _, rfl, u, _, 0, _, rfl, rfl, SqT.of hu, rfl, a, _, _, _, rfl, rfl, SqL.of R5.top, atI_nat g1, _, rfl, u, _, 1, _, rfl, rfl, SqT.of hu, rfl, rp, _, _, _, rfl, rfl, SqL.of g2, atI_nat g3, ?_⟩
        -- good
        refine gset_nx ?_
        refine asg_mid (fun g H6 => Same H5 H6 ∧ (g = true ↔ (o.2 = 0 ∨ (o.1, o.2 - 1) ∈ W'))) (fun RR z => ?_) ?_
        · refine ⟨_, rfl, u, _, 1, _, rfl, rfl, SqT.of hu, rfl, rfl, _, rfl, ?_⟩
          by_cases h0 : o.2 = 0
          · refine iteP (by rw [h0]; rfl) ?_
            exact z true H5 ⟨Same.refl _, fun _ => .inl h0, fun _ => rfl⟩
          · refine iteN (fun w => h0 (by have := V.int.inj w; lia)) ?_
            refine ⟨_, rfl, u, _, 0, _, rfl, rfl, SqT.of hu, rfl, _, rfl, u, _, 1, _, rfl, rfl, SqT.of hu, rfl, _, _, rfl, rfl, (by show 2 ≤ sizeLine; decide), fun tt htt => ?_⟩
            have st := Same.new (o := .tup [V.int ((o.1 : Nat) : Int), V.int (((o.2 : Nat) : Int) - 1)]) htt
            have e2 : [V.int ((o.1 : Nat) : Int), V.int (((o.2 : Nat) : Int) - 1)] = posV (o.1, o.2 - 1) := by
              unfold posV
              rw [show ((o.2 : Nat) : Int) - 1 = ((o.2 - 1 : Nat) : Int) by lia]
            refine ⟨_, rfl, _, _, pos_mean K (o := (o.1, o.2 - 1)) (by rw [upd_same, e2]), evs_mean K (hW5.same st), ?_⟩
            rw [em_in]
            exact z _ _ ⟨st, by rw [decide_eq_true_eq]; exact ⟨.inr, fun w => w.resolve_left h0⟩⟩
        rintro g H6 ⟨s6, hg⟩
        -- if event[0] == 'take'
        have hte6 := s6 _ _ g4
        refine if_mid (decide (V.str e.k.str = V.str "take")) (fun σ H7 => ∃ g', Same H5 H7 ∧ (g' = true ↔ Ready rs W' o) ∧ σ = [some (.ref a), some (.ref dn), some (.int (0 + ((t : Nat) : Int))), some (.ref u), some (.ref te), some (.bl g')]) ?_ ?_ ?_ ?_
        · exact fun RR z => ⟨_, rfl, te, _, 0, _, rfl, rfl, SqT.of hte6, rfl, rfl, _, rfl, z⟩
        · intro hk
          have hk : e.k ≠ .take := fun z => by
            rw [z] at hk
            exact absurd hk (by decide +kernel)
          refine ⟨g, s6, hg.trans ⟨fun z => ⟨hO, z, fun e2 he2 k2 => ?_⟩, fun z => z.2.1⟩, rfl⟩
          rw [he] at he2
          cases he2
          exact absurd k2 hk
        · intro hk rest
          have hk : e.k = .take := Kd.str_inj (V.str.inj (of_decide_eq_true hk))
          refine seq_asg1 ?_
          refine ⟨_, rfl, g, rfl, ?_⟩
          cases g with
          | false =>
            refine iteF ?_
            exact rest _ _ ⟨false, s6, ⟨fun z => (nomatch z), fun z => hg.mpr z.2.1⟩, rfl⟩
          | true =>
            refine iteT ?_
            refine ⟨_, rfl, _, rfl, te, _, 1, _, rfl, rfl, SqT.of hte6, rfl, a, ps, rs, e.l, rfl, R5.same s6, hB, fun v H7 s7 hc => ?_⟩
            rcases hc with ⟨tt, o2, e2, rfl, htt, a2, k2, l2⟩ | ⟨_, no⟩
            · refine ⟨_, rfl, _, _, pos_mean K htt, evs_mean K ((hW5.same s6).same s7), ?_⟩
              rw [em_in]
              refine rest _ _ ⟨_, s6.trans s7, ?_, rfl⟩
              rw [decide_eq_true_eq]
              constructor
              · intro z
                refine ⟨hO, hg.mp rfl, fun e3 he3 k3 => ⟨o2, z, e2, a2, k2, ?_⟩⟩
                rw [he] at he3
                cases he3
                exact l2
              · intro z
                obtain ⟨s, hs, e3, a3, k3, l3⟩ := z.2.2 e he hk
                obtain ⟨w1, w2⟩ := hus _ _ _ _ _ _ a2 a3 k2 k3 (l2.trans l3.symm)
                have : o2 = s := Prod.ext w1 w2
                rw [this]
                exact hs
            · obtain ⟨h', p', e', a', k', l'⟩ := hst o.1 o.2 e he hk
              exact absurd l' (no (h', p') e' a' k')
        rintro σ H7 ⟨g', s7, hg', rfl⟩
        have keepM : Paired (PosAt H7) xi (evs rs) := Paired.mapP m5 fun _ _ z => z.same s7
        have old : (Ready rs W o → o ∈ W') → ∃ W'' v3 v4 v5, ([some (.ref a), some (.ref dn), some (.int (0 + ((t : Nat) : Int))), some (.ref u), some (.ref te), some (.bl g')] : St) = [some (.ref a), some (.ref dn), some (.int (0 + ((t : Nat) : Int))), v3, v4, v5] ∧ Same H H7 ∧ H7 fi = some (.lst xi) ∧ Paired (PosAt H7) xi (evs rs) ∧ EvsA H7 dn W'' ∧ DoneL rs W'' ∧ (∀ o ∈ W, o ∈ W'') ∧ ∀ o ∈ (evs rs).take (k + 1), Ready rs W o → o ∈ W'' := fun z => by
          refine ⟨W', _, _, _, rfl, s5.trans s7, s7 _ _ hx5, keepM, hW5.same s7, dW', sub, fun x hx hxr => ?_⟩
          rw [snoc_take ho] at hx
          rcases List.mem_append.mp hx with w | w
          · exact all x w hxr
          · have : x = o := by simpa using w
            subst this
            exact z hxr
        refine ⟨_, rfl, g', rfl, ?_⟩
        cases g' with
        | false =>
          refine iteF ?_
          refine iteF ?_
          exact old fun z => absurd (hg'.mpr (z.mono sub)) Bool.false_ne_true
        | true =>
          refine iteT ?_
          refine ⟨_, rfl, _, rfl, _, _, pos_mean K (s7 _ _ hu), evs_mean K (hW5.same s7), _, em_not, ?_⟩
          by_cases z : o ∈ W'
          · refine iteNS z ?_
            exact old fun _ => z
          · rw [decide_eq_false z]
            refine iteT ?_
            have hy7 := s7 _ _ hy
            refine ⟨_, rfl, .inl ⟨rfl, _, SqL.of hy7⟩, _, rfl, dn, _, _, rfl, rfl, hy7, small1000 (by lia), ?_⟩
            have nt : ∀ {x : V} {o : Pl} {l : HO}, PosAt H7 x o → PosAt (L2.upd H7 dn l) x o := fun w => w.keep (S := fun c => c = dn) (Kept.upd rfl) (fun c ws hc z => by rw [hc, hy7] at z; cases z)
            refine ⟨W' ++ [o], _, _, _, rfl, Same.off (s5.trans s7) hdn, by rw [upd_ne hdi]; exact s7 _ _ hx5, Paired.mapP keepM fun _ _ w => nt w, ⟨_, upd_same, Paired.snoc (Paired.mapP my fun _ _ w => nt (w.same s7)) (nt ⟨u, rfl, s7 _ _ hu⟩)⟩, .snoc dW' z (hg'.mp rfl), fun x hx => List.mem_append_left _ (sub x hx), fun x hx hxr => ?_⟩
            rw [snoc_take ho] at hx
            rcases List.mem_append.mp hx with w | w
            · exact List.mem_append_left _ (all x w hxr)
            · exact List.mem_append_right _ w
      · rintro σ H5 ⟨W', v3, v4, v5, rfl, s5, hx5, m5, hW5, dW', sub, all⟩
        rw [hil, List.take_length] at all
        refine ⟨W', _, _, _, _, rfl, s5, hW5, dW', fun ⟨rk, o⟩ => ?_⟩
        have h1 := oW ⟨rk, o⟩
        by_cases lt : W.length < (evs rs).length
        · have := ends_more dW dW' sub (fun x hx hr => all x (mem_evs'.mpr hx) hr) o lt
          lia
        · rw [hxl] at ht
          have : W.length ≤ W'.length := by
            have gen : ∀ (W E : List Pl), W.Nodup → (∀ o ∈ W, o ∈ E) → W.length ≤ E.length := by
              intro W
              induction W with
              | nil => intro E _ _; exact Nat.zero_le _
              | cons x W ih =>
                intro E nd hs
                obtain ⟨n1, n2⟩ := List.nodup_cons.mp nd
                have hx := hs x List.mem_cons_self
                have := ih (E.erase x) n2 fun o ho => (List.mem_erase_of_ne (by rintro rfl; exact n1 ho)).mpr (hs o (List.mem_cons_of_mem _ ho))
                have l := List.length_erase_of_mem hx
                have : 0 < E.length := List.length_pos_of_mem hx
                rw [List.length_cons]
                lia
            exact gen W W' dW.nd sub
          lia
    · rintro σ H3 ⟨W, v2, v3, v4, v5, rfl, s3, hW, dW, oW⟩
      rw [hxl] at oW
      obtain ⟨ys, hy, my⟩ := id hW
      have hyl := Paired.length my
      refine ⟨_, rfl, dn, _, rfl, .inl (SqL.of hy), _, rfl, a, ps, rs, rfl, hR.same s3, hB, fun fz H4 s4 hfz0 hZ => ?_⟩
      obtain ⟨xz, hxz, mz⟩ := id hZ
      have hzl := Paired.length mz
      refine ⟨fz, _, rfl, .inl (SqL.of hxz), rfl, q _ H4 (s3.trans s4) ?_⟩
      rw [hyl, hzl, decide_eq_true_eq, ← ends_iff dW oW]
      exact ⟨fun z => by have := V.int.inj z; lia, fun z => by rw [z]⟩
end
end Cw

set_option Elab.async false
set_option linter.all false
set_option maxRecDepth 100000
set_option maxHeartbeats 4000000
namespace Cw
open PySem L2
noncomputable abbrev s_read_number : Stmt := top 28
theorem sc_read_number : FnScope ["text", "greatest"] ["text", "greatest"] (defScope s_read_number) := ⟨rfl, rfl, rfl, by decide +kernel, rfl, by decide +kernel, by decide +kernel⟩

noncomputable abbrev s_read_value : Stmt := top 27
theorem sc_read_value : FnScope ["text", "number"] ["text"] (defScope s_read_value) := ⟨rfl, rfl, rfl, by decide +kernel, rfl, by decide +kernel, by decide +kernel⟩

noncomputable abbrev s_read_event : Stmt := top 26
theorem sc_read_event : FnScope ["word", "parts", "value", "doing"] ["word"] (defScope s_read_event) := ⟨rfl, rfl, rfl, by decide +kernel, rfl, by decide +kernel, by decide +kernel⟩

noncomputable abbrev s_read_row : Stmt := top 25
theorem sc_read_row : FnScope ["line", "words"] ["line"] (defScope s_read_row) := ⟨rfl, rfl, rfl, by decide +kernel, rfl, by decide +kernel, by decide +kernel⟩

noncomputable abbrev s_read : Stmt := top 24
theorem sc_read : FnScope ["note", "lines"] ["note"] (defScope s_read) := ⟨rfl, rfl, rfl, by decide +kernel, rfl, by decide +kernel, by decide +kernel⟩

theorem sz1000 {n : Nat} (h : n ≤ 1000) : n ≤ sizeLine := Nat.le_trans h (by decide)
section
variable {P : Program} {w : World} {K : PySem.W.Frag} {mg : Str → Option Value} {base : Heap}
theorem ok_rnumR {f C RE BL RI NE NC NN pK : Addr} {fd : FuncData} (F : Fun K "read_number" "read_number" s_read_number f fd) (B : Bl mg) (Z : ExcU K w mg C RE BL RI NE NC NN pK) : FnOk P w K mg base (CXR P w) 1 f fd ["text", "greatest"] (sp_rnumR NN) := by
  have sc := sc_read_number
  obtain ⟨tF, g_FIGURES⟩ := Z.c_FIGURES
  refine F.okR sc (fun vs H Q E h => ?_) (fun cdv A outer s H vs Q E hr h => ?_)
  · obtain ⟨x, m, g, rfl, _⟩ := h
    rfl
  · obtain ⟨x, m, g, rfl, hT, hmg, q, qE⟩ := h
    have hlen := hT.len
    have hsz : x.length ≤ sizeLine := sz1000 (by lia)
    refine ⟨_, (pss_cons (ps_if ((pw_or (pt_cmpR op_eq (pv 0) pe_str (nomark _)) (pw_or1 (pt_not (pt_val (pe_callB (call_all rfl) (by rfl) (B "all" (by decide +kernel)) bt_all (pa_cons (pe_lc (te := (tOp rInS (tVar 0) (tC (.str "0123456789")))) (tt := tTrue) (Blk.plain (ts := ["sign"]) (by decide +kernel) (by decide +kernel) rfl (by decide +kernel)) rfl (pi_str (pv 0)) (fun _ _ _ _ => (pg_name (i := 0) (show List.Nodup (["sign"] : List Str) by decide +kernel) rfl (Or.inl rfl))) (fun _ _ _ _ => pifs_nil) (fun _ _ _ _ => (pe_cmpR op_inS (pv 0) (pe_glob (v := .str "0123456789") (by rfl) (by exact g_FIGURES) ⟨_, rfl⟩) (by with_unfolding_all rfl)))) pa_nil))))))).pt (pss_one (ps_raise lets_def rfl Z.m_NoNote Z.x_NoNote (pa_cons (pe_msg (pm_str (pm_reprS (pv 0) pm_nil))) pa_nil))) pss_nil)
       (pss_cons (ps_if ((pw_and (pt_cmpR op_eq (pe_ix ix_str (pv 0) pe_int (fun _ _ => rfl)) pe_str (nomark _)) (pw_and1 (pt_cmpR op_ne (pv 0) pe_str (nomark _))))).pt (pss_one (ps_raise lets_def rfl Z.m_NoNote Z.x_NoNote (pa_cons (pe_msg (pm_str (pm_reprS (pv 0) pm_nil))) pa_nil))) pss_nil)
       (pss_cons (ps_if ((pw_or (pt_cmpR op_gt (pe_callB call_len_str (by rfl) (B "len" (by decide +kernel)) bt_len (pa_cons (pv 0) pa_nil)) (pe_callB call_len_str (by rfl) (B "len" (by decide +kernel)) bt_len (pa_cons (pe_callTy call_str_int (by rfl) (B "str" (by decide +kernel)) bt_str (pa_cons (pv 1) pa_nil)) pa_nil)) (nomark _)) (pw_or1 (pt_cmpR op_gt (pe_callTy call_intS (by rfl) (B "int" (by decide +kernel)) bt_int (pa_cons (pv 0) pa_nil)) (pv 1) (nomark _))))).pt (pss_one (ps_raise lets_def rfl Z.m_NoNote Z.x_NoNote (pa_cons (pe_msg (pm_str (pm_reprS (pv 0) pm_nil))) pa_nil))) pss_nil)
       (pss_one (ps_ret (pe_callTy call_intS (by rfl) (B "int" (by decide +kernel)) bt_int (pa_cons (pv 0) pa_nil))))))), ?_⟩
    refine ⟨_, rfl, rfl, _, rfl, ?_⟩
    by_cases h0 : x = Str.ofString ""
    · refine iteT2 (by rw [h0]) ?_
      exact ⟨_, rfl, x, rfl, hT, fun msg => ⟨by show 1 ≤ sizeLine; decide, fun xa hxa => qE (pNum_empty h0) _ (Same.new hxa)⟩⟩
    refine iteNo (decide_eq_false fun z => h0 (by injection z)) ?_
    refine ⟨_, rfl, _, rfl, fun D hD => lc_str (x := x) (fun i σ ys H2 => ∃ v, σ = [v] ∧ ys = (((cl x).take i).map fun c => decide (48 ≤ c ∧ c ≤ 57)).map V.bl ∧ Same H H2 ∧ H2 D = some (.lst ys))
      ⟨_, rfl, rfl, Same.new hD, upd_same⟩ ?_ ?_⟩
    · rintro i c σ ys H2 hc ⟨v, rfl, rfl, s2, hD2⟩
      have hc2 : (cl x)[i]? = some c := by simpa using hc
      refine ⟨_, rfl, _, _, rfl, rfl, hD2, small1000 (by rw [List.length_map, List.length_map, List.length_take, cl_len]; lia), _, rfl, ?_, s2.off hD, upd_same⟩
      rw [fig_dec, snoc_take hc2, List.map_append, List.map_append]
      rfl
    rintro σ ys H1 ⟨v, rfl, rfl, s1, hD1⟩
    rw [show x.cps.size = (cl x).length from (cl_len x).symm, List.take_length] at hD1
    refine ⟨D, _, rfl, SqL.of hD1, _, rfl, ?_⟩
    by_cases h1 : ∀ c ∈ cl x, 48 ≤ c ∧ c ≤ 57
    case neg =>
      have e : ((cl x).map fun c => decide (48 ≤ c ∧ c ≤ 57)).all id = false := by
        rw [Bool.eq_false_iff]
        intro z
        rw [List.all_eq_true] at z
        exact h1 fun c hc => of_decide_eq_true (z _ (List.mem_map.mpr ⟨c, hc, rfl⟩))
      rw [e]
      refine iteT ?_
      exact ⟨_, rfl, x, rfl, hT, fun msg => ⟨by show 1 ≤ sizeLine; decide, fun xa hxa => qE (pNum_nofig h1) _ (s1.trans (Same.new hxa))⟩⟩
    case pos =>
    have e : ((cl x).map fun c => decide (48 ≤ c ∧ c ≤ 57)).all id = true := by
      rw [List.all_eq_true]
      intro b hb
      obtain ⟨c, hc, rfl⟩ := List.mem_map.mp hb
      exact decide_eq_true (h1 c hc)
    rw [e]
    refine iteF ?_
    obtain ⟨c0, hc0⟩ := head_some h0
    refine ⟨_, rfl, _, 0, c0, rfl, rfl, hsz, head_at hc0, rfl, _, rfl, ?_⟩
    have hF : ∀ k, x.length ≤ k → k ≤ 600 → Figs (cl x) := fun k hk hk2 => ⟨fun z => (by rw [z] at hc0; cases hc0), (by rw [cl_len]; lia), h1⟩
    have ec : (V.str ⟨#[c0]⟩ = V.str (Str.ofString "0")) ↔ (cl x).head? = some 48 := by
      rw [lit_ze, hc0]
      constructor
      · intro z
        injection z with z
        have := congrArg cl z
        have this : [c0] = [48] := this
        injection this with this
        rw [this]
      · intro z
        cases z
        rfl
    by_cases h2 : (cl x).head? = some 48
    case pos =>
      refine iteT2 (ec.mpr h2) ?_
      refine ⟨_, rfl, rfl, _, rfl, ?_⟩
      by_cases h3 : x = Str.ofString "0"
      case neg =>
        refine iteNN (fun z => h3 (by injection z)) ?_
        exact ⟨_, rfl, x, rfl, hT, fun msg => ⟨by show 1 ≤ sizeLine; decide, fun xa hxa => qE (pNum_nought h2 h3) _ (s1.trans (Same.new hxa))⟩⟩
      case pos =>
      refine iteNS (by rw [h3]) ?_
      have hn : ¬ ((cl x).head? = some 48 ∧ x ≠ Str.ofString "0") := fun z => z.2 h3
      have hlg : ((g : Nat) : Int).natAbs.log2 < 1920 := by rcases hmg with ⟨rfl, rfl⟩ | ⟨rfl, rfl⟩ <;> decide +kernel
      have hlm : (Str.ofString (toString ((g : Nat) : Int))).length = m := by rcases hmg with ⟨rfl, rfl⟩ | ⟨rfl, rfl⟩ <;> decide +kernel
      have hm10 : m ≤ 10 := by rcases hmg with ⟨rfl, rfl⟩ | ⟨rfl, rfl⟩ <;> decide
      refine ⟨_, rfl, _, rfl, hsz, _, rfl, ((g : Nat) : Int), rfl, hlg, _, rfl, sz1000 (by rw [hlm]; lia), _, _, rfl, rfl, _, rfl, ?_⟩
      by_cases h4 : m < x.length
      case pos =>
        refine iteT2 (by rw [hlm]; lia) ?_
        exact ⟨_, rfl, x, rfl, hT, fun msg => ⟨by show 1 ≤ sizeLine; decide, fun xa hxa => qE (pNum_long h4) _ (s1.trans (Same.new hxa))⟩⟩
      case neg =>
      refine iteNo (decide_eq_false (by rw [hlm]; lia)) ?_
      have hFx := hF 10 (by lia) (by decide)
      refine ⟨_, rfl, _, rfl, hFx, _, rfl, _, _, rfl, rfl, _, rfl, ?_⟩
      by_cases h5 : g < numOf (cl x)
      case pos =>
        refine iteT2 (show ((g : Nat) : Int) < ((numOf (cl x) : Nat) : Int) by lia) ?_
        exact ⟨_, rfl, x, rfl, hT, fun msg => ⟨by show 1 ≤ sizeLine; decide, fun xa hxa => qE (pNum_big h5) _ (s1.trans (Same.new hxa))⟩⟩
      case neg =>
      refine iteNo (decide_eq_false (show ¬ ((g : Nat) : Int) < ((numOf (cl x) : Nat) : Int) by lia)) ?_
      exact ⟨_, rfl, _, rfl, hFx, q _ (pNum_yes (pFig_yes h0 h1 hn (by lia)) h5) _ s1⟩
    case neg =>
      refine iteNo (decide_eq_false fun z => h2 (ec.mp z)) ?_
      have hn : ¬ ((cl x).head? = some 48 ∧ x ≠ Str.ofString "0") := fun z => h2 z.1
      have hlg : ((g : Nat) : Int).natAbs.log2 < 1920 := by rcases hmg with ⟨rfl, rfl⟩ | ⟨rfl, rfl⟩ <;> decide +kernel
      have hlm : (Str.ofString (toString ((g : Nat) : Int))).length = m := by rcases hmg with ⟨rfl, rfl⟩ | ⟨rfl, rfl⟩ <;> decide +kernel
      have hm10 : m ≤ 10 := by rcases hmg with ⟨rfl, rfl⟩ | ⟨rfl, rfl⟩ <;> decide
      refine ⟨_, rfl, _, rfl, hsz, _, rfl, ((g : Nat) : Int), rfl, hlg, _, rfl, sz1000 (by rw [hlm]; lia), _, _, rfl, rfl, _, rfl, ?_⟩
      by_cases h4 : m < x.length
      case pos =>
        refine iteT2 (by rw [hlm]; lia) ?_
        exact ⟨_, rfl, x, rfl, hT, fun msg => ⟨by show 1 ≤ sizeLine; decide, fun xa hxa => qE (pNum_long h4) _ (s1.trans (Same.new hxa))⟩⟩
      case neg =>
      refine iteNo (decide_eq_false (by rw [hlm]; lia)) ?_
      have hFx := hF 10 (by lia) (by decide)
      refine ⟨_, rfl, _, rfl, hFx, _, rfl, _, _, rfl, rfl, _, rfl, ?_⟩
      by_cases h5 : g < numOf (cl x)
      case pos =>
        refine iteT2 (show ((g : Nat) : Int) < ((numOf (cl x) : Nat) : Int) by lia) ?_
        exact ⟨_, rfl, x, rfl, hT, fun msg => ⟨by show 1 ≤ sizeLine; decide, fun xa hxa => qE (pNum_big h5) _ (s1.trans (Same.new hxa))⟩⟩
      case neg =>
      refine iteNo (decide_eq_false (show ¬ ((g : Nat) : Int) < ((numOf (cl x) : Nat) : Int) by lia)) ?_
      exact ⟨_, rfl, _, rfl, hFx, q _ (pNum_yes (pFig_yes h0 h1 hn (by lia)) h5) _ s1⟩
theorem ok_rvalR {f C RE BL RI NE NC NN pK : Addr} {fd : FuncData} (F : Fun K "read_value" "read_value" s_read_value f fd) (B : Bl mg) (Z : ExcU K w mg C RE BL RI NE NC NN pK) (D_read_number : DfR P w K mg base 1 "read_number" ["text", "greatest"] (sp_rnumR NN)) : FnOk P w K mg base (CXR P w) 2 f fd ["text"] (sp_rvalR NN) := by
  have sc := sc_read_value
  obtain ⟨tG, g_GREATEST_VALUE⟩ := Z.c_GREATEST_VALUE
  refine F.okR sc (fun vs H Q E h => ?_) (fun cdv A outer s H vs Q E hr h => ?_)
  · obtain ⟨x, rfl, _⟩ := h
    rfl
  · obtain ⟨x, rfl, hT, q, qE⟩ := h
    have hlen := hT.len
    refine ⟨_, (pss_cons (ps_if (pt_not (pt_val (pe_bm PySem.F.plainAttrs_str PySem.F.slot_str_startswith PySem.F.type_str_startswith mt_sstarts (pv 0) (pa_cons pe_str pa_nil)))) (pss_one (ps_ret (pe_dfR D_read_number lets_def (hr.mono (by decide)) (pa_cons (pv 0) (pa_cons (pe_glob (v := .int 1000000000) (by rfl) (by exact g_GREATEST_VALUE) ⟨_, rfl⟩) pa_nil))))) pss_nil)
       (pss_cons (ps_set (i := 1) sc.nd rfl (Or.inl rfl) (pe_dfR D_read_number lets_def (hr.mono (by decide)) (pa_cons (pe_slice sl_str (pv 0) (po_some pe_int) po_none) (pa_cons (pe_glob (v := .int 1000000000) (by rfl) (by exact g_GREATEST_VALUE) ⟨_, rfl⟩) pa_nil))))
       (pss_cons (ps_if (pt_cmpR op_eq (pv 1) pe_int (nomark _)) (pss_one (ps_raise lets_def rfl Z.m_NoNote Z.x_NoNote (pa_cons pe_str pa_nil))) pss_nil)
       (pss_one (ps_ret (pe_un un_neg (pv 1))))))), ?_⟩
    refine ⟨_, rfl, rfl, _, _, rfl, rfl, _, rfl, ?_⟩
    rw [starts_head]
    by_cases hv : (cl x).head? = some 45
    · rw [decide_eq_true hv]
      refine iteF ?_
      have ev : pVal x = (pNum 10 1000000000 (dropS x 1)).bind fun n => if n = 0 then none else some (-((n : Nat) : Int)) := by unfold pVal; rw [if_pos hv]
      refine ⟨_, rfl, _, rfl, _, 1, rfl, rfl, rfl, len_pos hv, sz1000 (by lia), dropS x 1, 10, 1000000000, rfl, txt_drop hT 1, .inr ⟨rfl, rfl⟩, fun n hn H1 s1 => ?_, fun hn H1 s1 => qE (by rw [ev, hn]; rfl) H1 s1⟩
      rw [hn] at ev
      refine ⟨_, rfl, rfl, _, rfl, ?_⟩
      by_cases hn0 : n = 0
      · refine iteT2 (by rw [hn0]; rfl) ?_
        exact ⟨by show 1 ≤ sizeLine; decide, fun xa hxa => qE (by rw [ev]; show (if n = 0 then none else _) = none; rw [if_pos hn0]) _ (s1.trans (Same.new hxa))⟩
      · refine iteNo (decide_eq_false fun z => hn0 (by injection z with z; lia)) ?_
        exact ⟨_, rfl, _, rfl, q _ (by rw [ev]; show (if n = 0 then none else some (-((n : Nat) : Int))) = _; rw [if_neg hn0]) H1 s1⟩
    · rw [decide_eq_false hv]
      refine iteT ?_
      have ev : pVal x = (pNum 10 1000000000 x).map fun n => ((n : Nat) : Int) := by unfold pVal; rw [if_neg hv]
      exact ⟨_, rfl, x, 10, 1000000000, rfl, hT, .inr ⟨rfl, rfl⟩, fun n hn H1 s1 => q _ (by rw [ev, hn]; rfl) H1 s1, fun hn H1 s1 => qE (by rw [ev, hn]; rfl) H1 s1⟩
theorem ok_revR {f C RE BL RI NE NC NN pK : Addr} {fd : FuncData} (F : Fun K "read_event" "read_event" s_read_event f fd) (B : Bl mg) (Z : ExcU K w mg C RE BL RI NE NC NN pK) (D_read_number : DfR P w K mg base 1 "read_number" ["text", "greatest"] (sp_rnumR NN)) (D_read_value : DfR P w K mg base 2 "read_value" ["text"] (sp_rvalR NN)) : FnOk P w K mg base (CXR P w) 3 f fd ["word"] (sp_revR NN) := by
  have sc := sc_read_event
  obtain ⟨tG, g_GREATEST_LETTER⟩ := Z.c_GREATEST_LETTER
  refine F.okR sc (fun vs H Q E h => ?_) (fun cdv A outer s H vs Q E hr h => ?_)
  · obtain ⟨x, rfl, _⟩ := h
    rfl
  · obtain ⟨x, rfl, hT, q, qE⟩ := h
    have hlen := hT.len
    obtain ⟨hT1, hT2⟩ := txt_part hT
    have hep : pEv x = (pVal (Txt.partition x (one 61)).2.2).bind (pHead (Txt.partition x (one 61)).1) := rfl
    refine ⟨_, (pss_cons (ps_set (i := 1) sc.nd rfl (Or.inl rfl) (pe_bm PySem.F.plainAttrs_str PySem.F.slot_str_partition PySem.F.type_str_partition mt_spart (pv 0) (pa_cons pe_str pa_nil)))
       (pss_cons (ps_set (i := 2) sc.nd rfl (Or.inl rfl) (pe_dfR D_read_value lets_def (hr.mono (by decide)) (pa_cons (pe_ix ix_tup (pv 1) pe_int (fun _ _ => rfl)) pa_nil)))
       (pss_cons (ps_set (i := 3) sc.nd rfl (Or.inl rfl) (pe_ix ix_tup (pv 1) pe_int (fun _ _ => rfl)))
       (pss_cons (ps_if (pt_cmpR op_eq (pv 3) pe_str (nomark _)) (pss_one (ps_ret (pe_tup (pa_cons pe_str (pa_cons pe_int (pa_cons (pv 2) pa_nil)))))) pss_nil)
       (pss_cons (ps_if (pt_cmp (pc_knotin Z.d_KINDS (by rfl) Z.g_KINDS (pe_ix ix_str (pv 3) pe_int (fun _ _ => rfl)))) (pss_one (ps_raise lets_def rfl Z.m_NoNote Z.x_NoNote (pa_cons (pe_msg (pm_str (pm_reprS (pv 0) pm_nil))) pa_nil))) pss_nil)
       (pss_one (ps_ret (pe_tup (pa_cons (pe_kget Z.d_KINDS (by rfl) Z.g_KINDS (pe_ix ix_str (pv 3) pe_int (fun _ _ => rfl)) (fun _ _ => rfl)) (pa_cons (pe_dfR D_read_number lets_def (hr.mono (by decide)) (pa_cons (pe_slice sl_str (pv 3) (po_some pe_int) po_none) (pa_cons (pe_glob (v := .int 99) (by rfl) (by exact g_GREATEST_LETTER) ⟨_, rfl⟩) pa_nil))) (pa_cons (pv 2) pa_nil))))))))))), ?_⟩
    generalize hp : Txt.partition x (one 61) = p at hT1 hT2 hep
    obtain ⟨a, b, c⟩ := p
    refine ⟨_, rfl, rfl, _, _, (a, b, c), rfl, rfl, (by decide +kernel), sz1000 (by lia), (by rw [lit_eq]; exact hp), fun tp htp => ?_⟩
    have n1 := Same.new (o := .tup [V.str a, V.str b, V.str c]) htp
    have ht1 : L2.upd H tp (.tup [V.str a, V.str b, V.str c]) tp = some (.tup [V.str a, V.str b, V.str c]) := upd_same
    refine ⟨_, rfl, tp, _, 2, _, rfl, rfl, SqT.of ht1, rfl, c, rfl, hT2, fun v hv H2 s2 => ?_, fun hv H2 s2 => qE (by rw [hep]; show (pVal c).bind _ = none; rw [hv]; rfl) H2 (n1.trans s2)⟩
    have hep : pEv x = pHead a v := by rw [hep]; show (pVal c).bind _ = _; rw [hv]; rfl
    have s12 := n1.trans s2
    have ht2 := s2 _ _ ht1
    refine ⟨_, rfl, tp, _, 0, _, rfl, rfl, SqT.of ht2, rfl, ?_⟩
    refine ⟨_, rfl, rfl, _, rfl, ?_⟩
    have hal : a.length ≤ 1000 := by have := hT1.len; show a.length ≤ 1000; have : a.length ≤ 150 := hT1.len; lia
    by_cases ha : a = Str.ofString ""
    · refine iteT2 (by rw [ha]) ?_
      have he : pEv x = some ⟨.own, 0, v⟩ := by rw [hep]; unfold pHead; rw [if_pos ha]
      exact ⟨_, rfl, (by show 3 ≤ sizeLine; decide), fun t ht => q _ he t _ (s12.trans (Same.new ht)) upd_same⟩
    · refine iteNo (decide_eq_false fun z => ha (by injection z)) ?_
      obtain ⟨c0, hc0⟩ := head_some ha
      have hat := head_at hc0
      have he : pEv x = (pKind a).bind fun k => (pNum 2 99 (dropS a 1)).map fun l => ⟨k, ((l : Nat) : Int), v⟩ := by rw [hep]; unfold pHead; rw [if_neg ha]
      have hkd : kdv "!" "send" "?" "take" ⟨#[c0]⟩ = (pKind a).map Kd.str := by
        unfold kdv pKind
        rw [hc0, lit_ex, lit_qu]
        by_cases k1 : c0 = 33
        · subst k1; rfl
        · have n1 : ¬ ((⟨#[c0]⟩ : Str) = one 33) := fun z => k1 (by have := congrArg cl z; have this : [c0] = [33] := this; injection this)
          rw [if_neg n1, if_neg (show ¬ some c0 = some 33 from fun z => k1 (Option.some.inj z))]
          by_cases k2 : c0 = 63
          · subst k2; rfl
          · have n2 : ¬ ((⟨#[c0]⟩ : Str) = one 63) := fun z => k2 (by have := congrArg cl z; have this : [c0] = [63] := this; injection this)
            rw [if_neg n2, if_neg (show ¬ some c0 = some 63 from fun z => k2 (Option.some.inj z))]
            rfl
      refine ⟨_, rfl, _, 0, c0, rfl, rfl, sz1000 hal, hat, _, rfl, _, rfl, ?_⟩
      cases hk : pKind a with
      | none =>
        rw [hk] at hkd he
        refine iteTo (by rw [hkd]; rfl) ?_
        exact ⟨_, rfl, x, rfl, hT, fun msg => ⟨by show 1 ≤ sizeLine; decide, fun xa hxa => qE (by rw [he]; rfl) _ (s12.trans (Same.new hxa))⟩⟩
      | some k =>
        rw [hk] at hkd he
        refine iteNo (by rw [hkd]; rfl) ?_
        refine ⟨_, rfl, _, 0, c0, rfl, rfl, sz1000 hal, hat, _, _, rfl, hkd, _, rfl, _, rfl, _, 1, rfl, rfl, rfl, len_pos hc0, sz1000 hal, dropS a 1, 2, 99, rfl, txt_drop hT1 1, .inl ⟨rfl, rfl⟩, fun l hl H3 s3 => ⟨_, rfl, (by show 3 ≤ sizeLine; decide), fun t ht => ?_⟩, fun hl H3 s3 => qE (by rw [he]; show (pNum 2 99 (dropS a 1)).map _ = none; rw [hl]; rfl) H3 (s12.trans s3)⟩
        exact q ⟨k, ((l : Nat) : Int), v⟩ (by rw [he]; show (pNum 2 99 (dropS a 1)).map _ = _; rw [hl]; rfl) t _ ((s12.trans s3).trans (Same.new ht)) upd_same
theorem ok_rrowR {f C RE BL RI NE NC NN pK : Addr} {fd : FuncData} (F : Fun K "read_row" "read_row" s_read_row f fd) (B : Bl mg) (Z : ExcU K w mg C RE BL RI NE NC NN pK) (D_read_event : DfR P w K mg base 3 "read_event" ["word"] (sp_revR NN)) : FnOk P w K mg base (CXR P w) 4 f fd ["line"] (sp_rrowR NN) := by
  have sc := sc_read_row
  obtain ⟨tG, g_MOST_EVENTS⟩ := Z.c_MOST_EVENTS
  refine F.okR sc (fun vs H Q E h => ?_) (fun cdv A outer s H vs Q E hr h => ?_)
  · obtain ⟨x, rfl, _⟩ := h
    rfl
  · obtain ⟨x, rfl, hT, q, qE⟩ := h
    have hlen := hT.len
    refine ⟨_, (pss_cons (ps_if (pt_cmpR op_eq (pv 0) pe_str (nomark _)) (pss_one (ps_ret (pe_lst pa_nil))) pss_nil)
       (pss_cons (ps_set (i := 1) sc.nd rfl (Or.inl rfl) (pe_bm PySem.F.plainAttrs_str PySem.F.slot_str_split PySem.F.type_str_split mt_ssplit (pv 0) (pa_cons pe_str pa_nil)))
       (pss_cons (ps_if (pt_cmpR op_gt (pe_callB call_len_seqI (by rfl) (B "len" (by decide +kernel)) bt_len (pa_cons (pv 1) pa_nil)) (pe_glob (v := .int 6) (by rfl) (by exact g_MOST_EVENTS) ⟨_, rfl⟩) (nomark _)) (pss_one (ps_raise lets_def rfl Z.m_NoNote Z.x_NoNote (pa_cons (pe_msg (pm_str (pm_reprS (pv 0) pm_nil))) pa_nil))) pss_nil)
       (pss_one (ps_ret (pe_lcR lets_def rfl (te := (tCallR (sp_revR NN) (fun _ => E) (tCons (tVar 0) tNil))) (tt := tTrue) (Blk.plain (ts := ["word"]) (by decide +kernel) (by decide +kernel) rfl (by decide +kernel)) rfl (pi_list (pv 1)) (fun _ _ _ _ => (pg_name (i := 0) (show List.Nodup (["word"] : List Str) by decide +kernel) rfl (Or.inl rfl))) (fun _ _ _ _ => pifs_nil) (fun _ _ _ _ => (pe_dfR D_read_event lets_blk (hr.mono (by decide)) (pa_cons (pv 0) pa_nil))))))))), ?_⟩
    refine ⟨_, rfl, rfl, _, rfl, ?_⟩
    by_cases h0 : x = Str.ofString ""
    · refine iteT2 (by rw [h0]) ?_
      exact ⟨(by show 0 ≤ sizeLine; decide), fun l hl => q [] (by unfold pRow; rw [if_pos h0]) l _ (Same.new hl) hl ⟨[], upd_same, .nil⟩⟩
    refine iteNo (decide_eq_false fun z => h0 (by injection z)) ?_
    have hws := txt_split (s := 32) hT
    have hwl : (Txt.split x (one 32)).length ≤ 151 := by
      have h1 := PyProof.Rows.split_weight x (one 32) (by decide)
      lia
    have ep : pRow x = if (Txt.split x (one 32)).length ≤ 6 then (Txt.split x (one 32)).mapM pEv else none := by unfold pRow; rw [if_neg h0]
    generalize hsp : Txt.split x (one 32) = ws at hws hwl ep
    refine ⟨_, rfl, rfl, _, _, ws, rfl, rfl, (by decide +kernel), sz1000 (by lia), (by rw [lit_sp]; exact hsp), sz1000 (by lia), fun wl hwl0 => ?_⟩
    have n1 := Same.new (o := .lst (ws.map V.str)) hwl0
    have hw1 : L2.upd H wl (.lst (ws.map V.str)) wl = some (.lst (ws.map V.str)) := upd_same
    generalize L2.upd H wl (.lst (ws.map V.str)) = H1 at n1 hw1
    refine ⟨_, rfl, wl, _, rfl, .inl (SqL.of hw1), _, _, rfl, rfl, _, rfl, ?_⟩
    by_cases h6 : ws.length ≤ 6
    case neg =>
      refine iteT2 (show (6 : Int) < (((ws.map V.str).length : Nat) : Int) by rw [List.length_map]; lia) ?_
      exact ⟨_, rfl, x, rfl, hT, fun msg => ⟨by show 1 ≤ sizeLine; decide, fun xa hxa => qE (by rw [ep, if_neg h6]) _ (n1.trans (Same.new hxa))⟩⟩
    case pos =>
    refine iteNo (decide_eq_false (show ¬ (6 : Int) < (((ws.map V.str).length : Nat) : Int) by rw [List.length_map]; lia)) ?_
    rw [if_pos h6] at ep
    refine ⟨_, rfl, wl, rfl, ⟨_, SqL.of hw1⟩, fun D hD => lc_list (K := K) (a := wl) (xs := ws.map V.str) (fun i σ ys H2 => ∃ v r, σ = [v] ∧ Same H1 H2 ∧ H2 D = some (.lst ys) ∧ (ws.take i).mapM pEv = some r ∧ Paired (EvAt H2) ys r)
      ⟨_, [], rfl, Same.new hD, upd_same, rfl, .nil⟩ (fun i σ ys H2 _ ⟨v, r, _, s2, _⟩ => SqL.of (s2 _ _ hw1)) ?_ ?_⟩
    · rintro i y σ ys H2 hi ⟨v, r, rfl, s2, hD2, hm, mp⟩
      obtain ⟨wd, he, rfl⟩ : ∃ wd, ws[i]? = some wd ∧ y = .str wd := by
        rw [List.getElem?_map] at hi
        cases hri : ws[i]? with
        | none => rw [hri] at hi; cases hi
        | some e => rw [hri] at hi; exact ⟨e, rfl, (Option.some.inj hi).symm⟩
      have hil := lt_of_get he
      have hyl := Paired.length mp
      have hrl := (mapM_mem hm).1
      rw [List.length_take] at hrl
      refine ⟨_, rfl, wd, rfl, hws wd (List.mem_of_getElem? he), fun e hpe t H3 s3 ht => ?_, fun hpe H3 s3 => qE (by rw [ep]; exact mapM_none he hpe) H3 ((n1.trans s2).trans s3)⟩
      have hD3 := s3 _ _ hD2
      have nt : NoTup (fun b => b = D) H3 := fun b xs hb z => by rw [hb, hD3] at z; cases z
      have mp3 := Paired.mapP mp fun x e z => z.keep (S := fun _ => False) (fun b o e _ => s3 b o e) (fun _ _ z => z.elim)
      refine ⟨hD3, small1000 (by lia), _, r ++ [e], rfl, (s2.trans s3).off hD, upd_same, by rw [snoc_take he]; exact mapM_snoc hm hpe, ?_⟩
      refine Paired.snoc (Paired.mapP mp3 fun x e z => z.keep (S := fun b => b = D) (Kept.upd rfl) nt) ⟨t, rfl, ?_⟩
      rw [upd_ne (by rintro rfl; rw [hD3] at ht; cases ht)]
      exact ht
    · rintro σ ys H2 ⟨v, r, rfl, s2, hD2, hm, mp⟩
      rw [List.length_map, List.take_length] at hm
      exact q r (by rw [ep, hm]) D H2 (n1.trans s2) (n1.free hD) ⟨ys, hD2, mp⟩
theorem ok_readR {f C RE BL RI NE NC NN pK : Addr} {fd : FuncData} (F : Fun K "read" "read" s_read f fd) (B : Bl mg) (Z : ExcU K w mg C RE BL RI NE NC NN pK) (D_read_row : DfR P w K mg base 4 "read_row" ["line"] (sp_rrowR NN)) (C_Record : CfR P w K mg base 4 C "Record" ["self", "rows"] (sp_initU C BL RI)) : FnOk P w K mg base (CXR P w) 6 f fd ["note"] (sp_readR C BL RI NN) := by
  have sc := sc_read
  obtain ⟨tG, g_MOST_LINES⟩ := Z.c_MOST_LINES
  refine F.okR sc (fun vs H Q E h => ?_) (fun cdv A outer s H vs Q E hr h => ?_)
  · obtain ⟨x, ls, rfl, _⟩ := h
    rfl
  · obtain ⟨x, ls, rfl, hlen, hsp, hls, hT, qN, qB, q, qR⟩ := h
    have hne : ls ≠ [] := by rw [← hsp]; exact split_ne _ _
    refine ⟨_, (pss_cons (ps_set (i := 1) sc.nd rfl (Or.inl rfl) (pe_bm PySem.F.plainAttrs_str PySem.F.slot_str_split PySem.F.type_str_split mt_ssplit (pv 0) (pa_cons pe_str pa_nil)))
       (pss_cons (ps_if (pt_cmpR op_gt (pe_callB call_len_seqI (by rfl) (B "len" (by decide +kernel)) bt_len (pa_cons (pv 1) pa_nil)) (pe_glob (v := .int 4) (by rfl) (by exact g_MOST_LINES) ⟨_, rfl⟩) (nomark _)) (pss_one (ps_raise lets_def rfl Z.m_NoNote Z.x_NoNote (pa_cons pe_str pa_nil))) pss_nil)
       (pss_one (ps_ret (pe_cfR C_Record lets_def (hr.mono (by decide)) (pa_cons (pe_lcR lets_def rfl (te := (tCallR (sp_rrowR NN) (fun _ => E) (tCons (tVar 0) tNil))) (tt := tTrue) (Blk.plain (ts := ["line"]) (by decide +kernel) (by decide +kernel) rfl (by decide +kernel)) rfl (pi_list (pv 1)) (fun _ _ _ _ => (pg_name (i := 0) (show List.Nodup (["line"] : List Str) by decide +kernel) rfl (Or.inl rfl))) (fun _ _ _ _ => pifs_nil) (fun _ _ _ _ => (pe_dfR D_read_row lets_blk (hr.mono (by decide)) (pa_cons (pv 0) pa_nil)))) pa_nil)))))), ?_⟩
    refine ⟨_, rfl, rfl, _, _, ls, rfl, rfl, (by decide +kernel), Nat.le_trans hlen (by decide), (by rw [lit_nl]; exact hsp), sz1000 (by lia), fun wl hwl => ?_⟩
    have n1 := Same.new (o := .lst (ls.map V.str)) hwl
    have hw1 : L2.upd H wl (.lst (ls.map V.str)) wl = some (.lst (ls.map V.str)) := upd_same
    generalize L2.upd H wl (.lst (ls.map V.str)) = H1 at n1 hw1
    refine ⟨_, rfl, wl, _, rfl, .inl (SqL.of hw1), _, _, rfl, rfl, _, rfl, ?_⟩
    by_cases h4 : ls.length ≤ 4
    case neg =>
      refine iteT2 (show (4 : Int) < (((ls.map V.str).length : Nat) : Int) by rw [List.length_map]; lia) ?_
      exact ⟨by show 1 ≤ sizeLine; decide, fun xa hxa => qN (by unfold pRows; rw [if_neg h4]) _ (n1.trans (Same.new hxa))⟩
    case pos =>
    refine iteNo (decide_eq_false (show ¬ (4 : Int) < (((ls.map V.str).length : Nat) : Int) by rw [List.length_map]; lia)) ?_
    have ep : pRows ls = ls.mapM pRow := by unfold pRows; rw [if_pos h4]
    refine ⟨_, rfl, wl, rfl, ⟨_, SqL.of hw1⟩, fun D hD => lc_list (K := K) (a := wl) (xs := ls.map V.str) (fun i σ ys H2 => ∃ (qs : List Addr) (v : Option V) (rs : Rows), σ = [v] ∧ ys = qs.map V.ref ∧ Same H1 H2 ∧ H2 D = some (.lst ys) ∧ (ls.take i).mapM pRow = some rs ∧ Paired (RowA H2) qs rs ∧ ∀ q ∈ qs, ¬ q = D)
      ⟨[], _, [], rfl, rfl, Same.new hD, upd_same, rfl, .nil, fun q hq => (nomatch hq)⟩ (fun i σ ys H2 _ ⟨qs, v, rs, _, _, s2, _⟩ => SqL.of (s2 _ _ hw1)) ?_ ?_⟩
    · rintro i y σ ys H2 hi ⟨qs, v, rs, rfl, rfl, s2, hD2, hm, mp, nd⟩
      obtain ⟨ln, he, rfl⟩ : ∃ ln, ls[i]? = some ln ∧ y = .str ln := by
        rw [List.getElem?_map] at hi
        cases hri : ls[i]? with
        | none => rw [hri] at hi; cases hi
        | some e => rw [hri] at hi; exact ⟨e, rfl, (Option.some.inj hi).symm⟩
      have hil := lt_of_get he
      have hyl := Paired.length mp
      have hrl := (mapM_mem hm).1
      rw [List.length_take] at hrl
      refine ⟨_, rfl, ln, rfl, hT ln (List.mem_of_getElem? he), fun r hpr p H3 s3 hp0 hrow => ?_, fun hpr H3 s3 => qN (by rw [ep]; exact mapM_none he hpr) H3 ((n1.trans s2).trans s3)⟩
      have hD3 := s3 _ _ hD2
      have pD : ¬ p = D := by rintro rfl; rw [hD2] at hp0; cases hp0
      have nt : NoTup (fun b => b = D) H3 := fun b xs hb z => by rw [hb, hD3] at z; cases z
      have kk : Kept (fun b => b = D) H3 (L2.upd H3 D (.lst (qs.map V.ref ++ [.ref p]))) := Kept.upd rfl
      refine ⟨hD3, small1000 (by rw [List.length_map]; lia), qs ++ [p], _, rs ++ [r], rfl, by rw [List.map_append]; rfl, (s2.trans s3).off hD, upd_same, by rw [snoc_take he]; exact mapM_snoc hm hpr, ?_, fun b hb => ?_⟩
      · have mp3 : Paired (RowA H3) qs rs := Paired.mapP mp fun x e z => z.keep (S := fun _ => False) (fun b o e _ => s3 b o e) (fun _ _ z => z.elim) (fun z => z)
        have gen : ∀ {ps : List Addr} {ts : Rows}, Paired (RowA H3) ps ts → (∀ b ∈ ps, ¬ b = D) → Paired (RowA (L2.upd H3 D (.lst (qs.map V.ref ++ [.ref p])))) ps ts := by
          intro ps ts m
          induction m with
          | nil => intro _; exact .nil
          | cons h t ih => intro hn; exact .cons (h.keep kk nt (hn _ (List.mem_cons_self ..))) (ih fun b hb => hn b (List.mem_cons_of_mem _ hb))
        exact Paired.snoc (gen mp3 nd) (hrow.keep kk nt pD)
      · rcases List.mem_append.mp hb with z | z
        · exact nd b z
        · rw [List.mem_singleton.mp z]; exact pD
    · rintro σ ys H2 ⟨qs, v, rs, rfl, rfl, s2, hD2, hm, mp, nd⟩
      rw [List.length_map, List.take_length] at hm
      have hrs : pRows ls = some rs := ep.trans hm
      have hB := pRows_ok hne hrs
      intro x dx nx ndx nex
      have si : Same H2 (L2.upd (L2.upd H2 dx (.own x)) x (.ins C dx [])) := fun b o z => by
        rw [upd_ne (ne_of_none z nx), upd_ne (ne_of_none z ndx)]
        exact z
      have hR : RowsA H2 D qs rs := ⟨hD2, mp⟩
      have sk : ∀ H3, Kept (fun b => b = x) (L2.upd (L2.upd H2 dx (.own x)) x (.ins C dx [])) H3 → Same H H3 := fun H3 K3 => (n1.trans s2).trans fun b o z => K3 b o (si b o z) (ne_of_none z nx)
      exact ⟨x, dx, D, qs, rs, rfl, upd_same, hR.same si, hB, fun hV rr rqs sd td H3 K3 hRec f1 f2 f3 f4 => ⟨rfl, q rs hrs hV x rr rqs sd td H3 (sk H3 K3) hRec⟩, fun hb H3 K3 => qB rs hrs hb H3 (sk H3 K3), fun u1 u2 u3 l dd l2 H3 hl K3 hdd hev => qR rs hrs u1 u2 u3 l dd l2 H3 hl (sk H3 K3) hdd⟩
end
end Cw

set_option Elab.async false
set_option linter.all false
set_option maxRecDepth 100000
set_option maxHeartbeats 4000000
namespace Cw
open PySem L2
noncomputable abbrev s_Record_init : Stmt := inClass (top 9) 0
theorem sc_Record_init : FnScope ["self", "rows", "ring"] ["self", "rows"] (defScope s_Record_init) := ⟨rfl, rfl, rfl, by decide +kernel, rfl, by decide +kernel, by decide +kernel⟩

section
variable {P : Program} {w : World} {K : PySem.W.Frag} {mg : Str → Option Value} {base : Heap}
theorem ok_initU {f fI C RE BL RI NE NC NN pK : Addr} {fd fdI : FuncData} (F : Fun K "__init__" "Record.__init__" s_Record_init f fd) (B : Bl mg) (R : RecC K C) (Z : ExcU K w mg C RE BL RI NE NC NN pK) (D_letter_places : DfR P w K mg base 1 "letter_places" ["rows", "kind"] (sp_placesR BL)) (D_check_sent : DfR P w K mg base 1 "check_sent" ["sends", "takes"] (sp_checkR BL))
    (D_find_ring : Df P w K mg base 3 "find_ring" ["rows", "sends"] sp_ringR) (S : RingC K RE RI fI) (RIF : FnOk P w K mg base CX0 1 fI fdI ["self", "events"] (sp_ring RI)) (RIB : Binds K fdI ["self", "events"] []) : FnOk P w K mg base (CXR P w) 4 f fd ["self", "rows"] (sp_initU C BL RI) := by
  have sc := sc_Record_init
  refine F.okR sc (fun vs H Q E h => ?_) (fun cdv A outer s H vs Q E hr h => ?_)
  · obtain ⟨x, dx, a, ps, rs, rfl, _⟩ := h
    rfl
  · obtain ⟨x, dx, a, ps, rs, rfl, hX, hR, hB, q, qE, qR⟩ := h
    refine ⟨_, (pss_cons (ps_fld (pv 0) (pe_lc (te := (tCB (rListOf K) (tCons (tVar 0) tNil))) (tt := tTrue) (Blk.plain (ts := ["row"]) (by decide +kernel) (by decide +kernel) rfl (by decide +kernel)) rfl (pi_list (pv 1)) (fun _ _ _ _ => (pg_name (i := 0) (show List.Nodup (["row"] : List Str) by decide +kernel) rfl (Or.inl rfl))) (fun _ _ _ _ => pifs_nil) (fun _ _ _ _ => (pe_callTy call_list_ofI (by rfl) (B "list" (by decide +kernel)) bt_list (pa_cons (pv 0) pa_nil)))) rfl)
       (pss_cons (ps_fld (pv 0) (pe_dfR D_letter_places lets_def (hr.mono (by decide)) (pa_cons (pe_fld (pv 0) rfl) (pa_cons pe_str pa_nil))) rfl)
       (pss_cons (ps_fld (pv 0) (pe_dfR D_letter_places lets_def (hr.mono (by decide)) (pa_cons (pe_fld (pv 0) rfl) (pa_cons pe_str pa_nil))) rfl)
       (pss_cons (ps_expr (pe_dfR D_check_sent lets_def (hr.mono (by decide)) (pa_cons (pe_fld (pv 0) rfl) (pa_cons (pe_fld (pv 0) rfl) pa_nil))))
       (pss_cons (ps_set (i := 2) sc.nd rfl (Or.inl rfl) (pe_df D_find_ring (hr.mono (by decide)) (pa_cons (pe_fld (pv 0) rfl) (pa_cons (pe_fld (pv 0) rfl) pa_nil))))
       (pss_one (ps_if (pt_cmpR op_notN (pv 2) pe_non (nomark _)) (pss_one (ps_raiseI lets_def rfl S.ini RIF (hr.mono (by decide)) RIB Z.m_Ring (pa_cons (pv 2) pa_nil))) pss_nil))))))), ?_⟩
    refine ⟨_, rfl, a, rfl, ⟨_, SqL.of hR.top⟩, fun D hD => lc_list (K := K) (a := a) (xs := ps.map V.ref) (fun i σ ys H2 => ∃ (qs : List Addr) (v : Option V), σ = [v] ∧ ys = qs.map V.ref ∧ Same H H2 ∧ H2 D = some (.lst (qs.map V.ref)) ∧ Paired (RowA H2) qs (rs.take i) ∧ (∀ q ∈ qs, H q = none) ∧ qs.Nodup ∧ D ∉ qs)
      ⟨[], _, rfl, rfl, Same.new hD, upd_same, .nil, fun q hq => (nomatch hq), List.nodup_nil, fun z => (nomatch z)⟩ (fun i σ ys H2 _ ⟨qs, v, _, _, s2, _⟩ => SqL.of (s2 _ _ hR.top)) ?_ ?_⟩
    · rintro i y σ ys H2 hi ⟨qs, v, rfl, rfl, s2, hD2, hq, hn, nd, nD⟩
      obtain ⟨p, hp, rfl⟩ := map_ref hi
      obtain ⟨r, hr', xs, hx, m⟩ := hR.get hp
      refine ⟨_, rfl, p, xs, rfl, .inl (SqL.of (s2 _ _ hx)), fun l hl => ?_⟩
      obtain ⟨c1, c2, c3, c4, c5, c6⟩ := copy_step s2 hD hD2 hq hn nd nD hr' m hl
      refine ⟨by rw [upd_ne (by rintro rfl; rw [hl] at hD2; cases hD2)]; exact hD2, ?_, qs ++ [l], _, rfl, by simp, ?_⟩
      · have e := Paired.length hq
        have := hB.hi
        rw [List.length_map, e, List.length_take]
        exact small1000 (by lia)
      · rw [List.map_append] at c1 c2 c3 ⊢
        exact ⟨c1, c2, c3, c4, c5, c6⟩
    · rintro σ ys H2 ⟨qs, v, rfl, rfl, s2, hD2, hq, hn, nd, nD⟩
      have e : rs.take (ps.map V.ref).length = rs := by rw [List.length_map, hR.len, List.take_length]
      rw [e] at hq
      have hX2 := s2 _ _ hX
      have xD : x ≠ D := ne_of_none hX hD
      have xq : ∀ q ∈ qs, ¬ q = x := fun q hq' z => by
        have := hn q hq'
        rw [z, hX] at this
        cases this
      refine ⟨_, rfl, x, C, dx, [], rfl, hX2, R.cl, R.nR, (by show 0 < 1000; decide), ?_⟩
      rw [put1]
      have nx2 : NoTup (fun b => b = x) H2 := fun b xs hb z => by rw [hb, hX2] at z; cases z
      have R2 : RowsA H2 D qs rs := ⟨hD2, hq⟩
      have k3 : Kept (fun b => b = x) H2 (L2.upd H2 x (.ins C dx [(("rows" : Str), V.ref D)])) := Kept.upd rfl
      have R3 := R2.keep k3 nx2 (fun z => xD z.symm) xq
      generalize hG : L2.upd H2 x (.ins C dx [(("rows" : Str), V.ref D)]) = H3 at k3 R3
      have hX3 : H3 x = some (.ins C dx [(("rows" : Str), V.ref D)]) := by rw [← hG]; exact upd_same
      have K3 : Kept (fun b => b = x) H H3 := (Same.kept s2).trans k3
      -- self.sends
      refine ⟨_, rfl, x, C, dx, _, _, rfl, hX3, R.cl, R.nR, lk_one, D, qs, rs, .send, rfl, R3, hB, fun hus sd skvs H4 s4 hsd0 hsd hsm => ?_, fun hn H4 s4 => qE (.inl hn) H4 (K3.trans (Same.kept s4))⟩
      have hX4 := s4 _ _ hX3
      have xsd : x ≠ sd := ne_of_none hX3 hsd0
      refine ⟨_, rfl, x, C, dx, _, rfl, hX4, R.cl, R.nS, (by show 1 < 1000; decide), ?_⟩
      rw [put2]
      have nx4 : NoTup (fun b => b = x) H4 := fun b xs hb z => by rw [hb, hX4] at z; cases z
      have k5 : Kept (fun b => b = x) H4 (L2.upd H4 x (.ins C dx [(("rows" : Str), V.ref D), (("sends" : Str), V.ref sd)])) := Kept.upd rfl
      have R5 := (R3.same s4).keep k5 nx4 (fun z => xD z.symm) xq
      have hsd5 : L2.upd H4 x (.ins C dx [(("rows" : Str), V.ref D), (("sends" : Str), V.ref sd)]) sd = some (.dK skvs) := by rw [upd_ne (Ne.symm xsd)]; exact hsd
      have hsm5 := Paired.mapP hsm fun x y z => z.keep k5 nx4
      generalize hG5 : L2.upd H4 x (.ins C dx [(("rows" : Str), V.ref D), (("sends" : Str), V.ref sd)]) = H5 at k5 R5 hsd5 hsm5
      have hX5 : H5 x = some (.ins C dx [(("rows" : Str), V.ref D), (("sends" : Str), V.ref sd)]) := by rw [← hG5]; exact upd_same
      have K5 : Kept (fun b => b = x) H H5 := (K3.trans (Same.kept s4)).trans k5
      have sd0 : H sd = none := by
        cases z : H sd with
        | none => rfl
        | some o =>
          have := K3 _ _ z (Ne.symm xsd)
          rw [hsd0] at this
          cases this
      -- self.takes
      refine ⟨_, rfl, x, C, dx, _, _, rfl, hX5, R.cl, R.nR, lk_one, D, qs, rs, .take, rfl, R5, hB, fun hut td tkvs H6 s6 htd0 htd htm => ?_, fun hn H6 s6 => qE (.inr (.inl hn)) H6 (K5.trans (Same.kept s6))⟩
      have hX6 := s6 _ _ hX5
      have xtd : x ≠ td := ne_of_none hX5 htd0
      refine ⟨_, rfl, x, C, dx, _, rfl, hX6, R.cl, R.nT, (by show 2 < 1000; decide), ?_⟩
      rw [put3]
      have nx6 : NoTup (fun b => b = x) H6 := fun b xs hb z => by rw [hb, hX6] at z; cases z
      have k7 : Kept (fun b => b = x) H6 (L2.upd H6 x (.ins C dx (recF D sd td))) := Kept.upd rfl
      have R7 := (R5.same s6).keep k7 nx6 (fun z => xD z.symm) xq
      have hsd7 : L2.upd H6 x (.ins C dx (recF D sd td)) sd = some (.dK skvs) := by rw [upd_ne (Ne.symm xsd)]; exact s6 _ _ hsd5
      have htd7 : L2.upd H6 x (.ins C dx (recF D sd td)) td = some (.dK tkvs) := by rw [upd_ne (Ne.symm xtd)]; exact htd
      have hsm7 := Paired.mapP hsm5 fun x y z => (z.keep (S := fun _ => False) (fun b o e _ => s6 b o e) (fun _ _ z => z.elim)).keep k7 nx6
      have htm7 := Paired.mapP htm fun x y z => z.keep k7 nx6
      generalize hG7 : L2.upd H6 x (.ins C dx (recF D sd td)) = H7 at k7 R7 hsd7 htd7 hsm7 htm7
      have hX7 : H7 x = some (.ins C dx (recF D sd td)) := by rw [← hG7]; exact upd_same
      have K7 : Kept (fun b => b = x) H H7 := (K5.trans (Same.kept s6)).trans k7
      have td0 : H td = none := by
        cases z : H td with
        | none => rfl
        | some o =>
          have := K5 _ _ z (Ne.symm xtd)
          rw [htd0] at this
          cases this
      have sdtd : sd ≠ td := by rintro rfl; rw [hsd5] at htd0; cases htd0
      -- check_sent
      refine ⟨_, rfl, x, C, dx, _, _, rfl, hX7, R.cl, R.nS, rec_sends _ _ _, _, rfl, x, C, dx, _, _, rfl, hX7, R.cl, R.nT, rec_takes _ _ _, sd, td, skvs, tkvs, rfl, hsd7, htd7, sdtd, fun kv hkv => ?_, fun hall o => ?_, fun hn H8 k8 => qE (.inr (.inr fun st => hn ((sent_of hsm7 htm7 hus).mpr st))) H8 (fun b u z nb => k8 b u (K7 b u z nb) (ne_of_none z td0))⟩
      · obtain ⟨n, hn'⟩ := List.getElem?_of_mem hkv
        obtain ⟨⟨l, i1, p1⟩, hx1, hp1⟩ := Paired.get htm7 hn'
        obtain ⟨e1, q1, _, l1⟩ := mem_places.mp (List.mem_of_getElem? hx1)
        have := hB.lets _ _ _ q1
        rw [l1] at this
        exact ⟨l, hp1.1, this.1, this.2⟩
      have hsent : Sent rs := (sent_of hsm7 htm7 hus).mp hall
      have nt7 : NoTup (fun b => b = td) H7 := fun b xs hb z => by rw [hb, htd7] at z; cases z
      have k8 : Kept (fun b => b = td) H7 (L2.upd H7 td (.frz o (.dK tkvs))) := Kept.upd rfl
      have tdD : ¬ D = td := fun z => by have := R7.top; rw [z, htd7] at this; cases this
      have tdq : ∀ q ∈ qs, ¬ q = td := fun q hq' z => by
        obtain ⟨i, hi⟩ := List.getElem?_of_mem hq'
        obtain ⟨r, _, xs, hx, _⟩ := R7.get hi
        rw [z, htd7] at hx
        cases hx
      have R8 := R7.keep k8 nt7 tdD tdq
      have S8 : SendsA (L2.upd H7 td (.frz o (.dK tkvs))) sd rs := ⟨skvs, .inl (by rw [upd_ne sdtd]; exact hsd7), Paired.mapP hsm7 fun x y z => z.keep k8 nt7⟩
      have T8 : TakesA (L2.upd H7 td (.frz o (.dK tkvs))) td rs := ⟨tkvs, .inr ⟨o, upd_same⟩, Paired.mapP htm7 fun x y z => z.keep k8 nt7⟩
      have hX8 : L2.upd H7 td (.frz o (.dK tkvs)) x = some (.ins C dx (recF D sd td)) := by rw [upd_ne xtd]; exact hX7
      have K8 : Kept (fun b => b = x) H (L2.upd H7 td (.frz o (.dK tkvs))) := fun b u z nb => by
        rw [upd_ne (ne_of_none z td0)]
        exact K7 b u z nb
      -- find_ring
      refine ⟨_, rfl, x, C, dx, _, _, rfl, hX8, R.cl, R.nR, rec_rows _ _ _, _, rfl, x, C, dx, _, _, rfl, hX8, R.cl, R.nS, rec_sends _ _ _, D, sd, qs, rs, rfl, R8, hB, S8, hus, hsent, fun H9 cs s9 rch hall => ?_, fun fl l H9 s9 hfl hE hring => ?_⟩
      · refine ⟨_, rfl, rfl, _, rfl, ?_⟩
        refine iteNS rfl ?_
        have hV : Val rs := ⟨hB, hus, hut, rch.all hall⟩
        exact q hV D qs sd td H9 (K8.trans (Same.kept s9)) (RecA.same s9 ⟨⟨dx, hX8⟩, R8, S8, T8, hV⟩) hD hn sd0 td0
      · refine ⟨_, rfl, rfl, _, rfl, ?_⟩
        refine iteT ?_
        obtain ⟨xs, hxs, mx⟩ := id hE
        refine ⟨_, rfl, (by show 1 ≤ sizeLine; decide), fun e he => ?_⟩
        have se := Same.new (o := exN e (.ref RI) none) he
        have efl : e ≠ fl := by rintro rfl; rw [hxs] at he; cases he
        refine ⟨e, fl, xs, rfl, upd_same, se _ _ hxs, efl, fun dd l2 H' kp h1 h2 h3 h4 h5 => ⟨rfl, e, some dd, rfl, h1, ?_⟩⟩
        have old : ∀ b u, H9 b = some u → L2.upd H' e (exO e (.ref RI) (some dd)) b = some u := fun b u z => by
          have z1 : b ≠ e := ne_of_none z he
          rw [upd_ne z1]
          exact kp b u (se _ _ z) z1
        have de : dd ≠ e := by rintro rfl; rw [upd_same] at h4; cases h4
        have le : l2 ≠ e := by rintro rfl; rw [upd_same] at h5; cases h5
        refine qR hus hut hsent l dd l2 _ hring (fun b u z nb => old b u (s9 _ _ (K8 b u z nb))) (by rw [upd_ne de]; exact h2) ⟨xs, by rw [upd_ne le]; exact h3, Paired.mapP mx fun y o ⟨tt, e1, e2⟩ => ⟨tt, e1, old _ _ e2⟩⟩
end
end Cw

set_option Elab.async false
set_option linter.all false
set_option maxRecDepth 100000
set_option maxHeartbeats 4000000
namespace Cw
open PySem L2
noncomputable abbrev s_law_word : Stmt := top 36
theorem sc_law_word : FnScope ["cell", "letter", "some"] ["cell"] (defScope s_law_word) := ⟨rfl, rfl, rfl, by decide +kernel, rfl, by decide +kernel, by decide +kernel⟩

noncomputable def words1 (t : Str) : List Str := [Str.ofString "=5", Str.ofString "=-7", Str.ofString "=0", Str.ofString "=1000000000", Str.ofString "=-1000000000", Str.ofString "!" ++ t ++ Str.ofString "=1", Str.ofString "?" ++ t ++ Str.ofString "=2"]
noncomputable def words2 (t : Str) : List Str := [Str.ofString "!99=0", Str.ofString "?99=0", Str.ofString "!" ++ t ++ Str.ofString "=-3", Str.ofString "?" ++ t ++ Str.ofString "=0", Str.ofString "=12", Str.ofString "!10=4", Str.ofString "?10=4"]
noncomputable def words3 : List Str := [Str.ofString "", Str.ofString "5", Str.ofString "=", Str.ofString "=-", Str.ofString "=-0", Str.ofString "=05", Str.ofString "=+5", Str.ofString "=1000000001", Str.ofString "=-1000000001", Str.ofString "!=5", Str.ofString "?=5"]
noncomputable def words4 : List Str := [Str.ofString "!100=5", Str.ofString "!07=5", Str.ofString "!-1=5", Str.ofString "a=5", Str.ofString "!5", Str.ofString "=5=5", Str.ofString "!1_0=5", Str.ofString "=1_0", Str.ofString "7=7"]
noncomputable def words5 : List Str := [Str.ofString "=5\t", Str.ofString "!\t1=5", Str.ofString "?1=5\t", Str.ofString "\t=5", Str.ofString "=-1_0", Str.ofString "!1 =5"]
noncomputable def words (t : Str) : List Str := words1 t ++ words2 t ++ words3 ++ words4 ++ words5
noncomputable def wok (x : Str) : Bool := decide (x.length ≤ 15) && (cl x).all fun c => decide (c < 128 ∧ c ≠ 10)
theorem wok_ok {x : Str} (h : wok x = true) : WOk x := by
  have h := Bool.and_eq_true _ _ ▸ h
  exact ⟨of_decide_eq_true h.1, fun c hc => of_decide_eq_true (List.all_eq_true.mp h.2 c hc)⟩
theorem words_all : (List.range 10).all (fun n => (words (Str.ofString (toString ((n : Nat) : Int)))).all wok) = true := by decide +kernel
theorem words_ok {n : Nat} (h : n < 10) : ∀ x ∈ words (Str.ofString (toString ((n : Nat) : Int))), WOk x := fun x hx =>
  wok_ok (List.all_eq_true.mp (List.all_eq_true.mp words_all n (List.mem_range.mpr h)) x hx)
theorem words_len (t : Str) : (words t).length = 40 := rfl
theorem num_len1 {n : Nat} (h : n < 10) : (Str.ofString (toString ((n : Nat) : Int))).length ≤ 5 := Nat.le_trans (num_len (k := 1) (by decide) h) (by decide)
theorem adS {a t : Str} (h1 : a.length ≤ 5) (h2 : t.length ≤ 5) : a.length + t.length ≤ sizeLine := Nat.le_trans (Nat.add_le_add h1 h2) (by decide)
theorem adS2 {a t b : Str} (h1 : a.length ≤ 5) (h2 : t.length ≤ 5) (h3 : b.length ≤ 5) : (a ++ t).length + b.length ≤ sizeLine := by
  rw [strLen_append]
  exact Nat.le_trans (Nat.add_le_add (Nat.add_le_add h1 h2) h3) (by decide)
theorem cat_st {H : Hp} {l l2 p : Addr} {a b : List Str} (hl : H l = some (.lst (a.map V.str))) (n2 : H l2 = none) (n3 : L2.upd H l2 (.lst (b.map V.str)) p = none) :
    Same H (L2.upd (L2.upd H l2 (.lst (b.map V.str))) p (.lst (a.map V.str ++ b.map V.str))) ∧ L2.upd (L2.upd H l2 (.lst (b.map V.str))) p (.lst (a.map V.str ++ b.map V.str)) p = some (.lst ((a ++ b).map V.str)) :=
  ⟨(Same.new n2).trans (Same.new n3), by rw [upd_same, List.map_append]⟩
section
variable {P : Program} {w : World} {K : PySem.W.Frag} {mg : Str → Option Value} {base : Heap}
theorem ok_word {f : Addr} {fd : FuncData} (F : Fun K "_law_word" "_law_word" s_law_word f fd) (B : Bl mg) : FnOk P w K mg base CX0 1 f fd ["cell"] sp_word := by
  have sc := sc_law_word
  refine F.ok sc (fun vs H Q E h => ?_) (fun cdv A outer s H vs Q E hr h => ?_)
  · obtain ⟨c, rfl, _⟩ := h
    rfl
  · obtain ⟨c, rfl, h0, h1, q⟩ := h
    refine ⟨_, (pss_cons (ps_set (i := 1) sc.nd rfl (Or.inl rfl) (pe_callTy call_str_int (by rfl) (B "str" (by decide +kernel)) bt_str (pa_cons (pe_op op_mod (pe_op op_fdiv (pv 0) pe_int) pe_int) pa_nil)))
       (pss_cons (ps_set (i := 2) sc.nd rfl (Or.inl rfl) (pe_lst (pa_cons pe_str (pa_cons pe_str (pa_cons pe_str (pa_cons pe_str (pa_cons pe_str (pa_cons (pe_op op_add_str (pe_op op_add_str pe_str (pv 1)) pe_str) (pa_cons (pe_op op_add_str (pe_op op_add_str pe_str (pv 1)) pe_str) pa_nil)))))))))
       (pss_cons (ps_set (i := 2) sc.nd rfl (Or.inl rfl) (pe_op op_cat (pv 2) (pe_lst (pa_cons pe_str (pa_cons pe_str (pa_cons (pe_op op_add_str (pe_op op_add_str pe_str (pv 1)) pe_str) (pa_cons (pe_op op_add_str (pe_op op_add_str pe_str (pv 1)) pe_str) (pa_cons pe_str (pa_cons pe_str (pa_cons pe_str pa_nil))))))))))
       (pss_cons (ps_set (i := 2) sc.nd rfl (Or.inl rfl) (pe_op op_cat (pv 2) (pe_lst (pa_cons pe_str (pa_cons pe_str (pa_cons pe_str (pa_cons pe_str (pa_cons pe_str (pa_cons pe_str (pa_cons pe_str (pa_cons pe_str (pa_cons pe_str (pa_cons pe_str (pa_cons pe_str pa_nil))))))))))))))
       (pss_cons (ps_set (i := 2) sc.nd rfl (Or.inl rfl) (pe_op op_cat (pv 2) (pe_lst (pa_cons pe_str (pa_cons pe_str (pa_cons pe_str (pa_cons pe_str (pa_cons pe_str (pa_cons pe_str (pa_cons pe_str (pa_cons pe_str (pa_cons pe_str pa_nil))))))))))))
       (pss_cons (ps_set (i := 2) sc.nd rfl (Or.inl rfl) (pe_op op_cat (pv 2) (pe_lst (pa_cons pe_str (pa_cons pe_str (pa_cons pe_str (pa_cons pe_str (pa_cons pe_str (pa_cons pe_str pa_nil)))))))))
       (pss_one (ps_ret (pe_ix ix_list (pv 2) (pe_op op_mul (pe_op op_mod (pv 0) pe_int) (pe_callTy call_intB (by rfl) (B "int" (by decide +kernel)) bt_int (pa_cons (pe_cmpR op_lt (pe_op op_mod (pv 0) pe_int) pe_int (nomark _)) pa_nil))) (fun _ _ => rfl)))))))))), ?_⟩
    have hL : ∃ n : Nat, n < 10 ∧ c / 48 % 10 = ((n : Nat) : Int) := ⟨(c / 48 % 10).toNat, by lia, by lia⟩
    obtain ⟨n, hn, en⟩ := hL
    refine ⟨_, rfl, _, _, rfl, rfl, ⟨by decide, by decide⟩, _, _, rfl, rfl, (by show (0 : Int) < 10; decide), _, rfl, log_small (by lia) (by lia), ?_⟩
    rw [en]
    have hW := words_ok hn
    have ht := num_len1 hn
    generalize Str.ofString (toString ((n : Nat) : Int)) = t at hW ht
    have a1 : (Str.ofString "!").length + t.length ≤ sizeLine := adS (by decide +kernel) ht
    have a2 : (Str.ofString "?").length + t.length ≤ sizeLine := adS (by decide +kernel) ht
    have b1 : ∀ {b : Str}, b.length ≤ 5 → (Str.ofString "!" ++ t).length + b.length ≤ sizeLine := fun h => adS2 (by decide +kernel) ht h
    have b2 : ∀ {b : Str}, b.length ≤ 5 → (Str.ofString "?" ++ t).length + b.length ≤ sizeLine := fun h => adS2 (by decide +kernel) ht h
    refine ⟨_, rfl, _, _, rfl, rfl, a1, _, _, rfl, rfl, b1 (by decide +kernel), _, rfl, _, _, rfl, rfl, a2, _, _, rfl, rfl, b2 (by decide +kernel), (by show 7 ≤ sizeLine; decide), fun l1 n1 => ?_⟩
    have s1 := Same.new (o := .lst ((words1 t).map V.str)) n1
    have e1 : L2.upd H l1 (.lst ((words1 t).map V.str)) l1 = some (.lst ((words1 t).map V.str)) := upd_same
    refine ⟨_, rfl, _, rfl, _, _, rfl, rfl, a1, _, _, rfl, rfl, b1 (by decide +kernel), _, rfl, _, _, rfl, rfl, a2, _, _, rfl, rfl, b2 (by decide +kernel), (by show 7 ≤ sizeLine; decide), fun l2 n2 => ?_⟩
    refine ⟨l1, l2, _, _, rfl, rfl, Same.new n2 _ _ e1, upd_same, (by show 14 ≤ sizeLine; decide), fun p2 m2 => ?_⟩
    obtain ⟨s2, e2⟩ := cat_st (b := words2 t) e1 n2 m2
    refine ⟨_, rfl, (by show 11 ≤ sizeLine; decide), fun l3 n3 => ?_⟩
    refine ⟨p2, l3, _, _, rfl, rfl, Same.new n3 _ _ e2, upd_same, (by show 25 ≤ sizeLine; decide), fun p3 m3 => ?_⟩
    obtain ⟨s3, e3⟩ := cat_st (b := words3) e2 n3 m3
    refine ⟨_, rfl, (by show 9 ≤ sizeLine; decide), fun l4 n4 => ?_⟩
    refine ⟨p3, l4, _, _, rfl, rfl, Same.new n4 _ _ e3, upd_same, (by show 34 ≤ sizeLine; decide), fun p4 m4 => ?_⟩
    obtain ⟨s4, e4⟩ := cat_st (b := words4) e3 n4 m4
    refine ⟨_, rfl, (by show 6 ≤ sizeLine; decide), fun l5 n5 => ?_⟩
    refine ⟨p4, l5, _, _, rfl, rfl, Same.new n5 _ _ e4, upd_same, (by show 40 ≤ sizeLine; decide), fun p5 m5 => ?_⟩
    obtain ⟨s5, e5⟩ := cat_st (b := words5) e4 n5 m5
    obtain ⟨j, hj, ej⟩ : ∃ j : Nat, j < 40 ∧ c % 48 * (if decide (c % 48 < 40) then 1 else 0) = ((j : Nat) : Int) := by
      by_cases h : c % 48 < 40
      · exact ⟨(c % 48).toNat, by lia, by rw [decide_eq_true h, if_pos rfl]; lia⟩
      · exact ⟨0, by decide, by rw [decide_eq_false h, if_neg Bool.false_ne_true]; lia⟩
    obtain ⟨x, hx⟩ : ∃ x, (words t)[j]? = some x := ⟨_, List.getElem?_eq_getElem (by rw [words_len]; exact hj)⟩
    refine ⟨_, rfl, _, rfl, _, _, rfl, rfl, (by show (0 : Int) < 48; decide), _, rfl, _, _, rfl, rfl, (by show (0 : Int) < 48; decide), _, _, rfl, rfl, _, rfl, _, _, rfl, rfl, .inr (by split <;> decide), _, _, _, _, rfl, rfl, SqL.of e5, ?_, q x _ ((((s1.trans s2).trans s3).trans s4).trans s5) (hW x (List.mem_of_getElem? hx))⟩
    rw [ej]
    exact atI_nat (by rw [List.getElem?_map, show words1 t ++ words2 t ++ words3 ++ words4 ++ words5 = words t from rfl, hx]; rfl)
end
end Cw

set_option Elab.async false
set_option linter.all false
set_option maxRecDepth 100000
set_option maxHeartbeats 4000000
namespace Cw
open PySem L2
noncomputable abbrev s_law_number : Stmt := top 37
theorem sc_law_number : FnScope ["word", "most", "sign"] ["word", "most"] (defScope s_law_number) := ⟨rfl, rfl, rfl, by decide +kernel, rfl, by decide +kernel, by decide +kernel⟩

theorem pFig_no {m : Nat} {x : Str} (h : ¬ (cl x ≠ [] ∧ (∀ c ∈ cl x, 48 ≤ c ∧ c ≤ 57) ∧ ((cl x).head? = some 48 → cl x = [48]) ∧ x.length ≤ m)) : pFig m x = none := by
  unfold pFig
  rw [if_neg h]
section
variable {P : Program} {w : World} {K : PySem.W.Frag} {mg : Str → Option Value} {base : Heap}
theorem ok_lnum {f : Addr} {fd : FuncData} (F : Fun K "_law_number" "_law_number" s_law_number f fd) (B : Bl mg) : FnOk P w K mg base CX0 1 f fd ["word", "most"] sp_lnum := by
  have sc := sc_law_number
  refine F.ok sc (fun vs H Q E h => ?_) (fun cdv A outer s H vs Q E hr h => ?_)
  · obtain ⟨x, m, rfl, _⟩ := h
    rfl
  · obtain ⟨x, m, rfl, hx, hm, q⟩ := h
    refine ⟨_, (pss_cons (ps_if ((pw_or (pt_cmpR op_lt (pe_callB call_len_str (by rfl) (B "len" (by decide +kernel)) bt_len (pa_cons (pv 0) pa_nil)) pe_int (nomark _)) (pw_or (pt_cmpR op_gt (pe_callB call_len_str (by rfl) (B "len" (by decide +kernel)) bt_len (pa_cons (pv 0) pa_nil)) (pv 1) (nomark _)) (pw_or1 ((pw_and (pt_cmpR op_gt (pe_callB call_len_str (by rfl) (B "len" (by decide +kernel)) bt_len (pa_cons (pv 0) pa_nil)) pe_int (nomark _)) (pw_and1 (pt_cmpR op_eq (pe_ix ix_str (pv 0) pe_int (fun _ _ => rfl)) pe_str (nomark _))))).pt)))).pt (pss_one (ps_ret pe_non)) pss_nil)
       (pss_cons (ps_for PassesOwn.never rfl (pi_str (pv 0)) (pg_name (i := 2) sc.nd rfl (Or.inl rfl)) (pss_one (ps_if (pt_cmpR op_notInS (pv 2) pe_str (by with_unfolding_all rfl)) (pss_one (ps_ret pe_non)) pss_nil)))
       (pss_one (ps_ret (pe_callTy call_intS (by rfl) (B "int" (by decide +kernel)) bt_int (pa_cons (pv 0) pa_nil)))))), ?_⟩
    have hsz : x.length ≤ sizeLine := Nat.le_trans hx (by decide)
    have hm10 : m ≤ 10 := by rcases hm with rfl | rfl <;> decide
    refine ⟨_, rfl, x, rfl, hsz, _, _, rfl, rfl, _, rfl, ?_⟩
    by_cases h0 : x = Str.ofString ""
    · refine iteT2 (by rw [h0]; decide +kernel) ?_
      show Q .non H
      rw [pFig_no fun z => z.1 (by rw [h0]; exact lit_em)] at q
      exact q
    obtain ⟨c0, hc0⟩ := head_some h0
    have hl1 := len_pos hc0
    refine iteNo (decide_eq_false (show ¬ ((x.length : Nat) : Int) < 1 by lia)) ?_
    refine ⟨_, rfl, x, rfl, hsz, _, rfl, _, _, rfl, rfl, _, rfl, ?_⟩
    by_cases h4 : m < x.length
    · refine iteT2 (show ((m : Nat) : Int) < ((x.length : Nat) : Int) by lia) ?_
      rw [pFig_no fun z => by have := z.2.2.2; lia] at q
      exact q
    refine iteNo (decide_eq_false (show ¬ ((m : Nat) : Int) < ((x.length : Nat) : Int) by lia)) ?_
    refine tAnd_mk (c := decide ((1 : Int) < ((x.length : Nat) : Int))) (d := decide (V.str ⟨#[c0]⟩ = V.str (Str.ofString "0"))) (fun R h => ⟨_, rfl, x, rfl, hsz, _, _, rfl, rfl, _, rfl, h⟩) (fun _ R h => ⟨_, rfl, _, 0, c0, rfl, rfl, hsz, head_at hc0, rfl, _, rfl, h⟩) ?_
    have ec : (V.str ⟨#[c0]⟩ = V.str (Str.ofString "0")) ↔ (cl x).head? = some 48 := by
      rw [lit_ze, hc0]
      constructor
      · intro z
        injection z with z
        have := congrArg cl z
        have this : [c0] = [48] := this
        injection this with this
        rw [this]
      · intro z
        cases z
        rfl
    by_cases h5 : (1 : Int) < ((x.length : Nat) : Int) ∧ (cl x).head? = some 48
    · rw [decide_eq_true h5.1, decide_eq_true (ec.mpr h5.2)]
      refine iteT ?_
      rw [pFig_no fun z => by have e := z.2.2.1 h5.2; have := h5.1; rw [← cl_len, e] at this; exact absurd this (by decide)] at q
      exact q
    refine iteNo ?_ ?_
    · rw [Bool.eq_false_iff]
      intro z
      have z := Bool.and_eq_true _ _ ▸ z
      exact h5 ⟨of_decide_eq_true z.1, ec.mp (of_decide_eq_true z.2)⟩
    have h48 : (cl x).head? = some 48 → cl x = [48] := fun z => by
      have hl : ¬ 1 < (cl x).length := fun y => h5 ⟨by rw [cl_len] at y; lia, z⟩
      cases hcl : cl x with
      | nil => rw [hcl] at z; cases z
      | cons a r =>
        rw [hcl] at z hl
        cases z
        cases r with
        | nil => rfl
        | cons b r => exact absurd (by rw [List.length_cons, List.length_cons]; lia) hl
    refine ⟨_, rfl, x, rfl, for_str (x := x) (fun i σ H2 => H2 = H ∧ (∀ j c, j < i → (cl x)[j]? = some c → 48 ≤ c ∧ c ≤ 57) ∧ ∃ v, σ = [some (.str x), some (.int ((m : Nat) : Int)), v])
      ⟨rfl, fun j c hj => absurd hj (Nat.not_lt_zero _), _, rfl⟩ ?_ ?_⟩
    · rintro i c σ H2 hc ⟨rfl, hd, v, rfl⟩
      have hc2 : (cl x)[i]? = some c := by simpa using hc
      refine ⟨_, rfl, _, _, rfl, rfl, _, rfl, ?_⟩
      rw [fig_dec]
      by_cases h6 : 48 ≤ c ∧ c ≤ 57
      · refine iteNS h6 ?_
        refine ⟨rfl, fun j d hj hd2 => ?_, _, rfl⟩
        rcases Nat.lt_succ_iff_lt_or_eq.mp hj with hj | rfl
        · exact hd j d hj hd2
        · rw [hc2] at hd2
          cases hd2
          exact h6
      · refine iteNN h6 ?_
        rw [pFig_no fun z => h6 (z.2.1 c (List.mem_of_getElem? hc2))] at q
        exact q
    · rintro σ H2 ⟨rfl, hd, v, rfl⟩
      have h1 : ∀ c ∈ cl x, 48 ≤ c ∧ c ≤ 57 := fun c hc => by
        obtain ⟨j, hj⟩ := List.getElem?_of_mem hc
        exact hd j c (by have := lt_of_get hj; rw [cl_len] at this; exact this) hj
      have hne : cl x ≠ [] := fun z => by rw [z] at hc0; cases hc0
      have ef : pFig m x = some (numOf (cl x)) := by
        unfold pFig
        rw [if_pos ⟨hne, h1, h48, by lia⟩]
      rw [ef] at q
      exact ⟨_, rfl, _, rfl, ⟨hne, (by rw [cl_len]; lia), h1⟩, q⟩
end
end Cw

set_option Elab.async false
set_option linter.all false
set_option maxRecDepth 100000
set_option maxHeartbeats 4000000
namespace Cw
open PySem L2
noncomputable abbrev s_law_event : Stmt := top 38
theorem sc_law_event : FnScope ["word", "at", "number", "letter"] ["word"] (defScope s_law_event) := ⟨rfl, rfl, rfl, by decide +kernel, rfl, by decide +kernel, by decide +kernel⟩

theorem inV_two (c : Nat) : inV (V.str ⟨#[c]⟩) [V.str (Str.ofString "!"), V.str (Str.ofString "?")] = (decide (c = 33) || decide (c = 63)) := by
  rw [lit_ex, lit_qu]
  show ((one 33 == (⟨#[c]⟩ : Str)) || ((one 63 == (⟨#[c]⟩ : Str)) || false)) = _
  have key : ∀ d : Nat, (one d == (⟨#[c]⟩ : Str)) = decide (c = d) := fun d => by
    by_cases h : c = d
    · subst h
      rw [decide_eq_true rfl]
      exact beq_self_eq_true _
    · rw [decide_eq_false h]
      exact beq_eq_false_iff_ne.mpr fun z => h (by have := congrArg cl z; have this : [d] = [c] := this; injection this with this; exact this.symm)
  rw [key, key, Bool.or_false]
section
variable {P : Program} {w : World} {K : PySem.W.Frag} {mg : Str → Option Value} {base : Heap}
theorem ok_lev {f C RE BL RI NE NC NN pK : Addr} {fd : FuncData} (F : Fun K "_law_event" "_law_event" s_law_event f fd) (B : Bl mg) (Z : ExcU K w mg C RE BL RI NE NC NN pK) (D_law_number : Df P w K mg base 1 "_law_number" ["word", "most"] sp_lnum) : FnOk P w K mg base CX0 2 f fd ["word"] sp_lev := by
  have sc := sc_law_event
  refine F.ok sc (fun vs H Q E h => ?_) (fun cdv A outer s H vs Q E hr h => ?_)
  · obtain ⟨x, rfl, _⟩ := h
    rfl
  · obtain ⟨x, rfl, hx, q, qn⟩ := h
    have hsz : x.length ≤ sizeLine := Nat.le_trans hx (by decide)
    refine ⟨_, (pss_cons (ps_set (i := 1) sc.nd rfl (Or.inl rfl) (pe_bm PySem.F.plainAttrs_str PySem.F.slot_str_find PySem.F.type_str_find mt_sfind (pv 0) (pa_cons pe_str pa_nil)))
       (pss_cons (ps_if (pt_cmpR op_lt (pv 1) pe_int (nomark _)) (pss_one (ps_ret pe_non)) pss_nil)
       (pss_cons (ps_set (i := 2) sc.nd rfl (Or.inl rfl) (pe_df D_law_number (hr.mono (by decide)) (pa_cons (pe_slice sl_strA (pv 0) (po_some (pe_op op_add (pv 1) pe_int)) po_none) (pa_cons pe_int pa_nil))))
       (pss_cons (ps_if (pt_cmpR op_eq (pe_slice sl_strA (pv 0) (po_some (pe_op op_add (pv 1) pe_int)) (po_some (pe_op op_add (pv 1) pe_int))) pe_str (nomark _)) (pss_cons (ps_set (i := 2) sc.nd rfl (Or.inl rfl) (pe_df D_law_number (hr.mono (by decide)) (pa_cons (pe_slice sl_strA (pv 0) (po_some (pe_op op_add (pv 1) pe_int)) po_none) (pa_cons pe_int pa_nil))))
       (pss_cons (ps_if ((pw_or (pt_cmpR op_isN (pv 2) pe_non (nomark _)) (pw_or1 (pt_cmpR op_eq (pv 2) pe_int (nomark _))))).pt (pss_one (ps_ret pe_non)) pss_nil)
       (pss_one (ps_set (i := 2) sc.nd rfl (Or.inl rfl) (pe_op op_sub pe_int (pv 2)))))) pss_nil)
       (pss_cons (ps_if ((pw_or (pt_cmpR op_isN (pv 2) pe_non (nomark _)) (pw_or1 (pt_cmpR op_gt (pe_callB call_absI (by rfl) Z.m_abs bt_abs (pa_cons (pv 2) pa_nil)) pe_int (nomark _))))).pt (pss_one (ps_ret pe_non)) pss_nil)
       (pss_cons (ps_if (pt_cmpR op_eq (pv 1) pe_int (nomark _)) (pss_one (ps_ret (pe_tup (pa_cons pe_str (pa_cons pe_int (pa_cons (pv 2) pa_nil)))))) pss_nil)
       (pss_cons (ps_set (i := 3) sc.nd rfl (Or.inl rfl) (pe_df D_law_number (hr.mono (by decide)) (pa_cons (pe_slice sl_strA (pv 0) (po_some pe_int) (po_some (pv 1))) (pa_cons pe_int pa_nil))))
       (pss_cons (ps_if ((pw_or (pt_cmpR op_isN (pv 3) pe_non (nomark _)) (pw_or1 (pt_cmpR op_notIn_seq (pe_ix ix_str (pv 0) pe_int (fun _ _ => rfl)) (pe_tup (pa_cons pe_str (pa_cons pe_str pa_nil))) (by with_unfolding_all rfl))))).pt (pss_one (ps_ret pe_non)) pss_nil)
       (pss_one (ps_ret (pe_tup (pa_cons (pe_ix ix_list (pe_lst (pa_cons pe_str (pa_cons pe_str pa_nil))) (pe_callTy call_intB (by rfl) (B "int" (by decide +kernel)) bt_int (pa_cons (pe_cmpR op_eq (pe_ix ix_str (pv 0) pe_int (fun _ _ => rfl)) pe_str (nomark _)) pa_nil)) (fun _ _ => rfl)) (pa_cons (pv 3) (pa_cons (pv 2) pa_nil)))))))))))))), ?_⟩
    refine ⟨_, rfl, rfl, _, _, rfl, rfl, ?_⟩
    rw [lit_eq]
    rcases find_ev x with ⟨ef, he⟩ | ⟨i, ef, hi, he⟩
    · rw [ef]
      refine ⟨_, rfl, _, _, rfl, rfl, _, rfl, ?_⟩
      exact iteT2 (by decide) (qn he H (Same.refl _))
    rw [ef]
    refine ⟨_, rfl, _, _, rfl, rfl, _, rfl, ?_⟩
    refine iteNo (decide_eq_false (show ¬ ((i : Nat) : Int) < 0 by lia)) ?_
    have hlc : (Builtin.Str.strSub x (i + 1) x.length).length ≤ 150 := Nat.le_trans (strSub_length_le _ _ _) hx
    refine ⟨_, rfl, _, rfl, _, _, rfl, rfl, _, rfl, x, i + 1, x.length, rfl, (by show some (((i : Nat) : Int) + 1) = some (((i + 1 : Nat) : Nat) : Int); rfl), .inl ⟨rfl, rfl⟩, hi, hsz, _, 10, rfl, hlc, .inr rfl, ?_⟩
    generalize hc : Builtin.Str.strSub x (i + 1) x.length = c at hlc he
    refine gset_nx ?_
    refine if_mid (decide ((cl c).head? = some 45)) (fun σ H' => H' = H ∧ ∃ nv, σ = [some (.str x), some (.int ((i : Nat) : Int)), some nv, none] ∧ ((nv = .non ∧ pVal c = none) ∨ ∃ v : Int, nv = .int v ∧ pVal c = if -1000000000 ≤ v ∧ v ≤ 1000000000 then some v else none)) (fun R h => ?_) (fun h => ?_) (fun h hr => ?_) ?_
    · refine ⟨_, rfl, _, rfl, _, _, rfl, rfl, _, rfl, _, rfl, _, _, rfl, rfl, _, rfl, x, i + 1, min (i + 2) x.length, rfl, (by show some (((i : Nat) : Int) + 1) = some (((i + 1 : Nat) : Nat) : Int); rfl), .inr ⟨i + 2, (by show some (((i : Nat) : Int) + 2) = some (((i + 2 : Nat) : Nat) : Int); rfl), rfl⟩, (by lia), hsz, rfl, _, rfl, ?_⟩
      have e := sub_dash hi
      rw [hc] at e
      rw [decide_eq_decide.mpr e]
      exact h
    · have h := of_decide_eq_false h
      have e := pVal_plus h
      refine ⟨rfl, _, rfl, ?_⟩
      cases hp : pFig 10 c with
      | none => exact .inl ⟨rfl, by rw [e, hp]; rfl⟩
      | some n =>
        refine .inr ⟨_, rfl, ?_⟩
        rw [e, hp]
        show (if n ≤ 1000000000 then some ((n : Nat) : Int) else none) = _
        by_cases hn : n ≤ 1000000000
        · rw [if_pos hn, if_pos (by lia)]
        · rw [if_neg hn, if_neg (by lia)]
    · have h := of_decide_eq_true h
      have e := pVal_minus h
      have h2 := sub_two_le (by rw [hc]; exact h)
      have hld : (dropS c 1).length ≤ 150 := by rw [dropS_len]; lia
      refine ⟨_, rfl, _, rfl, _, _, rfl, rfl, _, rfl, x, i + 2, x.length, rfl, (by show some (((i : Nat) : Int) + 2) = some (((i + 2 : Nat) : Nat) : Int); rfl), .inl ⟨rfl, rfl⟩, h2, hsz, _, 10, (by rw [sub_two, hc]; rfl), hld, .inr rfl, ?_⟩
      refine ⟨_, rfl, rfl, _, rfl, ?_⟩
      cases hp : pFig 10 (dropS c 1) with
      | none => exact iteT2 rfl (qn (by rw [he, e, hp]; rfl) H (Same.refl _))
      | some n =>
        refine iteNo (decide_eq_false fun z => by cases z) ?_
        refine ⟨_, rfl, rfl, _, rfl, ?_⟩
        by_cases hn : n = 0
        · exact iteT2 (by rw [hn]; rfl) (qn (by rw [he, e, hp]; show (if n = 0 ∨ _ then none else _ : Option Int).bind _ = none; rw [if_pos (.inl hn)]; rfl) H (Same.refl _))
        refine iteNo (decide_eq_false fun z => hn (by injection z with z; lia)) ?_
        refine ⟨_, rfl, _, _, rfl, rfl, hr _ _ ⟨rfl, _, rfl, .inr ⟨_, rfl, ?_⟩⟩⟩
        rw [e, hp]
        show (if n = 0 ∨ ¬ n ≤ 1000000000 then none else some (-((n : Nat) : Int))) = _
        by_cases hn2 : n ≤ 1000000000
        · rw [if_neg (by intro z; rcases z with z | z; exact hn z; exact z hn2), if_pos (by lia), Int.zero_sub]
        · rw [if_pos (.inr hn2), if_neg (by lia)]
    rintro σ' H' ⟨rfl, nv, rfl, hnv⟩
    refine ⟨_, rfl, rfl, _, rfl, ?_⟩
    rcases hnv with ⟨rfl, hv⟩ | ⟨v, rfl, hv⟩
    · exact iteT2 rfl (qn (by rw [he, hv]; rfl) H' (Same.refl _))
    refine iteNo (decide_eq_false fun z => by cases z) ?_
    refine ⟨_, rfl, _, rfl, _, _, rfl, rfl, _, rfl, ?_⟩
    by_cases hb : -1000000000 ≤ v ∧ v ≤ 1000000000
    case neg =>
      rw [if_neg hb] at hv
      refine iteT2 (by split <;> lia) (qn (by rw [he, hv]; rfl) H' (Same.refl _))
    rw [if_pos hb] at hv
    have he : pEv x = pHead (Builtin.Str.strSub x 0 i) v := by rw [he, hv]; rfl
    refine iteNo (decide_eq_false (by split <;> lia)) ?_
    refine ⟨_, rfl, rfl, _, rfl, ?_⟩
    by_cases hi0 : i = 0
    · subst hi0
      have he : pEv x = some ⟨.own, 0, v⟩ := by rw [he]; unfold pHead; rw [if_pos sub_none]
      refine iteT2 rfl ?_
      exact ⟨_, rfl, (by show 3 ≤ sizeLine; decide), fun t ht => q _ he t _ (Same.new ht) upd_same⟩
    refine iteNo (decide_eq_false fun z => hi0 (by injection z with z; lia)) ?_
    have hi1 : 1 ≤ i := by lia
    have hil : i ≤ x.length := by lia
    generalize ha : Builtin.Str.strSub x 0 i = a at he
    have hsl := sub_let hil
    rw [ha] at hsl
    have hhd := sub_head (w := x) hi1
    rw [ha] at hhd
    have hxne : x ≠ Str.ofString "" := fun z => by rw [z] at hil; exact absurd (Nat.le_trans hi1 hil) (by decide +kernel)
    obtain ⟨c0, hc0⟩ := head_some hxne
    have hac : (cl a).head? = some c0 := by rw [hhd, hc0]
    have hane : a ≠ Str.ofString "" := fun z => by rw [z, lit_em] at hac; cases hac
    have hal : (dropS a 1).length ≤ 150 := by rw [← hsl]; exact Nat.le_trans (strSub_length_le _ _ _) hx
    refine ⟨_, rfl, _, rfl, _, rfl, _, rfl, x, 1, min i x.length, rfl, rfl, .inr ⟨i, rfl, rfl⟩, (by lia), hsz, _, 2, (by rw [hsl]; rfl), hal, .inl rfl, ?_⟩
    refine ⟨_, rfl, rfl, _, rfl, ?_⟩
    cases hp : pFig 2 (dropS a 1) with
    | none => exact iteT2 rfl (qn (by rw [he]; exact pHead_no hane (.inr hp)) H' (Same.refl _))
    | some n =>
    refine iteNo (decide_eq_false fun z => by cases z) ?_
    refine ⟨_, rfl, _, 0, c0, rfl, rfl, hsz, head_at hc0, (by show 2 ≤ sizeLine; decide), fun t ht => ?_⟩
    have s1 := Same.new (o := .tup [V.str (Str.ofString "!"), V.str (Str.ofString "?")]) ht
    refine ⟨t, _, rfl, .inr (SqT.of upd_same), rfl, rfl, _, rfl, ?_⟩
    have hk := pKind_at hac
    rw [if_pos rfl, inV_two]
    by_cases k1 : c0 = 33
    · subst k1
      have he : pEv x = some ⟨.send, ((n : Nat) : Int), v⟩ := by rw [he]; exact pHead_yes hane (by rw [hk]; rfl) hp
      refine iteF ?_
      refine ⟨(by show 2 ≤ sizeLine; decide), fun l hl => ?_⟩
      refine ⟨_, rfl, _, 0, _, rfl, rfl, hsz, head_at hc0, rfl, _, rfl, l, _, _, _, rfl, rfl, SqL.of upd_same, ?_, _, rfl, _, rfl, (by show 3 ≤ sizeLine; decide), fun t2 ht2 => q _ he t2 _ ((s1.trans (Same.new hl)).trans (Same.new ht2)) upd_same⟩
      rw [decide_eq_false (show ¬ V.str ⟨#[33]⟩ = V.str (Str.ofString "?") by rw [lit_qu]; intro z; cases z), if_neg Bool.false_ne_true]
      exact atI_nat (j := 0) rfl
    by_cases k2 : c0 = 63
    · subst k2
      have he : pEv x = some ⟨.take, ((n : Nat) : Int), v⟩ := by rw [he]; exact pHead_yes hane (by rw [hk]; rfl) hp
      refine iteF ?_
      refine ⟨(by show 2 ≤ sizeLine; decide), fun l hl => ?_⟩
      refine ⟨_, rfl, _, 0, _, rfl, rfl, hsz, head_at hc0, rfl, _, rfl, l, _, _, _, rfl, rfl, SqL.of upd_same, ?_, _, rfl, _, rfl, (by show 3 ≤ sizeLine; decide), fun t2 ht2 => q _ he t2 _ ((s1.trans (Same.new hl)).trans (Same.new ht2)) upd_same⟩
      rw [decide_eq_true (show V.str ⟨#[63]⟩ = V.str (Str.ofString "?") by rw [lit_qu]; rfl), if_pos rfl]
      exact atI_nat (j := 1) rfl
    · rw [decide_eq_false k1, decide_eq_false k2]
      refine iteT ?_
      rw [if_neg k1, if_neg k2] at hk
      exact qn (by rw [he]; exact pHead_no hane (.inl hk)) _ s1
end
end Cw

set_option Elab.async false
set_option linter.all false
set_option maxRecDepth 100000
set_option maxHeartbeats 4000000
namespace Cw
open PySem L2
noncomputable abbrev s_law_rows : Stmt := top 39
theorem sc_law_rows : FnScope ["lines", "rows", "line", "row"] ["lines"] (defScope s_law_rows) := ⟨rfl, rfl, rfl, by decide +kernel, rfl, by decide +kernel, by decide +kernel⟩

theorem dec_t {c : Prop} {i : Decidable c} (h : c) : @decide c i = true := decide_eq_true h
theorem dec_f {c : Prop} {i : Decidable c} (h : ¬ c) : @decide c i = false := decide_eq_false h
section
variable {P : Program} {w : World} {K : PySem.W.Frag} {mg : Str → Option Value} {base : Heap}
theorem ok_lrows {f : Addr} {fd : FuncData} (F : Fun K "_law_rows" "_law_rows" s_law_rows f fd) (B : Bl mg) (D_law_event : Df P w K mg base 2 "_law_event" ["word"] sp_lev) : FnOk P w K mg base CX0 3 f fd ["lines"] (sp_lrows K) := by
  have sc := sc_law_rows
  refine F.ok sc (fun vs H Q E h => ?_) (fun cdv A outer s H vs Q E hr h => ?_)
  · obtain ⟨p, ls, rfl, _⟩ := h
    rfl
  · obtain ⟨p, ls, rfl, hp, hl, hls, q, qn⟩ := h
    refine ⟨_, (pss_cons (ps_set (i := 1) sc.nd rfl (Or.inl rfl) (pe_lst pa_nil))
       (pss_cons (ps_for PassesOwn.never rfl (pi_list (pv 0)) (pg_name (i := 2) sc.nd rfl (Or.inl rfl)) (pss_cons (ps_set (i := 3) sc.nd rfl (Or.inl rfl) (pe_lst pa_nil))
       (pss_cons (ps_if (pt_cmpR op_ne (pv 2) pe_str (nomark _)) (pss_one (ps_setLC (i := 3) sc.nd rfl (Or.inl rfl) (te := (tCall sp_lev [] E0 (tCons (tVar 0) tNil))) (tt := tTrue) (Blk.plain (ts := ["word"]) (by decide +kernel) (by decide +kernel) rfl (by decide +kernel)) rfl (pi_list (pe_bm PySem.F.plainAttrs_str PySem.F.slot_str_split PySem.F.type_str_split mt_ssplit (pv 2) (pa_cons pe_str pa_nil))) (fun _ _ _ _ => (pg_name (i := 0) (show List.Nodup (["word"] : List Str) by decide +kernel) rfl (Or.inl rfl))) (fun _ _ _ _ => pifs_nil) (fun _ _ _ _ => (pe_df D_law_event (hr.mono (by decide)) (pa_cons (pv 0) pa_nil))))) pss_nil)
       (pss_cons (ps_if ((pw_or (pt_cmpR (op_inM EqOk.opt (un_of hr)) pe_non (pv 3) (by with_unfolding_all rfl)) (pw_or1 (pt_cmpR op_gt (pe_callB call_len_seqI (by rfl) (B "len" (by decide +kernel)) bt_len (pa_cons (pv 3) pa_nil)) pe_int (nomark _))))).pt (pss_one (ps_ret pe_non)) pss_nil)
       (pss_one (ps_expr (pe_bm PySem.F.plainAttrs_list PySem.F.slot_list_append PySem.F.type_list_append mt_append (pv 1) (pa_cons (pv 3) pa_nil))))))))
       (pss_cons (ps_if (pt_cmpR op_gt (pe_callB call_len_seqI (by rfl) (B "len" (by decide +kernel)) bt_len (pa_cons (pv 1) pa_nil)) pe_int (nomark _)) (pss_one (ps_ret pe_non)) pss_nil)
       (pss_one (ps_ret (pv 1)))))), ?_⟩
    refine ⟨(by show 0 ≤ sizeLine; decide), fun D hD => ?_⟩
    have sD := Same.new (o := .lst []) hD
    refine ⟨_, rfl, p, rfl, ⟨_, SqL.of (sD _ _ hp)⟩, for_list (K := K) (a := p) (xs := ls.map V.str) (fun i σ H2 => ∃ (ps : List Addr) (rs : Rows) (v2 v3 : Option V), σ = [some (.ref p), some (.ref D), v2, v3] ∧ Same H H2 ∧ H2 D = some (.lst (ps.map V.ref)) ∧ (ls.take i).mapM pRow = some rs ∧ Paired (RowA H2) ps rs ∧ ∀ b ∈ ps, ¬ b = D)
      ⟨[], [], _, _, rfl, sD, upd_same, rfl, .nil, fun b hb => (nomatch hb)⟩ (fun i σ H2 _ ⟨ps, rs, v2, v3, _, s2, _⟩ => SqL.of (s2 _ _ hp)) ?_ ?_⟩
    · rintro i y σ H2 hi ⟨ps, rs, v2, v3, rfl, s2, hD2, hm, mp, nd⟩
      obtain ⟨ln, he, rfl⟩ : ∃ ln, ls[i]? = some ln ∧ y = .str ln := by
        rw [List.getElem?_map] at hi
        cases hri : ls[i]? with
        | none => rw [hri] at hi; cases hi
        | some e => rw [hri] at hi; exact ⟨e, rfl, (Option.some.inj hi).symm⟩
      have hil := lt_of_get he
      have hyl := Paired.length mp
      have hrl := (mapM_mem hm).1
      rw [List.length_take] at hrl
      have hlen := hls ln (List.mem_of_getElem? he)
      refine ⟨(by show 0 ≤ sizeLine; decide), fun l0 hl0 => ?_⟩
      have s0 := Same.new (o := .lst []) hl0
      refine gset_nx ?_
      refine if_mid (!decide (V.str ln = V.str (Str.ofString ""))) (fun σ H' => ∃ (l : Addr) (ys : List V), σ = [some (.ref p), some (.ref D), some (.str ln), some (.ref l)] ∧ Same H2 H' ∧ H2 l = none ∧ H' l = some (.lst ys) ∧ Paired (EvO H') ys (osOf ln)) (fun R h => ⟨_, rfl, rfl, _, rfl, h⟩) (fun h => ?_) (fun h hr => ?_) ?_
      · have h0 : ln = Str.ofString "" := Classical.byContradiction fun z => by
          rw [decide_eq_false (fun y => z (by injection y))] at h
          cases h
        exact ⟨l0, [], rfl, s0, hl0, upd_same, by rw [osOf_em h0]; exact .nil⟩
      · have h0 : ln ≠ Str.ofString "" := fun z => by rw [z, decide_eq_true rfl] at h; cases h
        have hwl : (Txt.split ln (one 32)).length ≤ 151 := by
          have h1 := PyProof.Rows.split_weight ln (one 32) (by decide)
          lia
        have hws := split_short (x := ln) (s := 32)
        have eo := osOf_ne h0
        generalize hsp : Txt.split ln (one 32) = ws at hws hwl eo
        refine ⟨_, rfl, rfl, _, _, ws, rfl, rfl, (by decide +kernel), Nat.le_trans hlen (by decide), (by rw [lit_sp]; exact hsp), Nat.le_trans hwl (by decide), fun wl hwl0 => ?_⟩
        have n1 := Same.new (o := .lst (ws.map V.str)) hwl0
        have hw1 : L2.upd (L2.upd H2 l0 (.lst [])) wl (.lst (ws.map V.str)) wl = some (.lst (ws.map V.str)) := upd_same
        have s1 := s0.trans n1
        generalize L2.upd (L2.upd H2 l0 (.lst [])) wl (.lst (ws.map V.str)) = H1 at s1 hw1
        refine ⟨wl, rfl, ⟨_, SqL.of hw1⟩, fun E hE => lc_list (K := K) (a := wl) (xs := ws.map V.str) (fun i σ ys H2 => ∃ v, σ = [v] ∧ Same H1 H2 ∧ H2 E = some (.lst ys) ∧ Paired (EvO H2) ys ((ws.take i).map pEv))
          ⟨_, rfl, Same.new hE, upd_same, .nil⟩ (fun i σ ys H2 _ ⟨v, _, s2, _⟩ => SqL.of (s2 _ _ hw1)) ?_ ?_⟩
        · rintro i y σ ys H3 hi ⟨v, rfl, s3, hE3, me⟩
          obtain ⟨wd, hwd, rfl⟩ : ∃ wd, ws[i]? = some wd ∧ y = .str wd := by
            rw [List.getElem?_map] at hi
            cases hri : ws[i]? with
            | none => rw [hri] at hi; cases hi
            | some e => rw [hri] at hi; exact ⟨e, rfl, (Option.some.inj hi).symm⟩
          have hyl := Paired.length me
          rw [List.length_map, List.length_take] at hyl
          have fin : ∀ (v' : V) (H4 : Hp), Same H3 H4 → EvO H4 v' (pEv wd) → H4 E = some (.lst ys) ∧ ys.length + 1 ≤ sizeLine ∧ ∃ v, [some (V.str wd)] = [v] ∧ Same H1 (L2.upd H4 E (.lst (ys ++ [v']))) ∧ L2.upd H4 E (.lst (ys ++ [v'])) E = some (.lst (ys ++ [v'])) ∧ Paired (EvO (L2.upd H4 E (.lst (ys ++ [v'])))) (ys ++ [v']) ((ws.take (i + 1)).map pEv) := fun v' H4 s4 hv' => by
            have hE4 := s4 _ _ hE3
            have nt : NoTup (fun b => b = E) H4 := fun b xs hb z => by rw [hb, hE4] at z; cases z
            have kk : Kept (fun b => b = E) H4 (L2.upd H4 E (.lst (ys ++ [v']))) := Kept.upd rfl
            have me4 := Paired.mapP me fun x e z => z.keep (S := fun _ => False) (fun b o e _ => s4 b o e) (fun _ _ z => z.elim)
            refine ⟨hE4, small1000 (by lia), _, rfl, (s3.trans s4).off hE, upd_same, ?_⟩
            rw [snoc_take hwd, List.map_append]
            exact Paired.snoc (Paired.mapP me4 fun x e z => z.keep kk nt) (hv'.keep kk nt)
          refine ⟨_, rfl, wd, rfl, Nat.le_trans (hws wd (List.mem_of_getElem? hwd)) hlen, fun e hpe t H4 s4 ht => fin _ H4 s4 (.inr ⟨e, hpe, t, rfl, ht⟩), fun hpe H4 s4 => fin _ H4 s4 (.inl ⟨rfl, hpe⟩)⟩
        · rintro σ ys H3 ⟨v, rfl, s3, hE3, me⟩
          rw [List.length_map, List.take_length] at me
          exact hr _ _ ⟨E, ys, rfl, s1.trans s3, s1.free hE, hE3, by rw [eo]; exact me⟩
      · rintro σ' H' ⟨l, ys, rfl, s3, hl, hl3, me⟩
        have hyl2 := Paired.length me
        refine ⟨_, rfl, none, _, .inl ⟨rfl, rfl⟩, evos_mean K hl3 me, _, rfl, ?_⟩
        by_cases hn : none ∈ osOf ln
        · exact iteTo (dec_t (none_mem.mpr hn)) (qn (pRows_none he (pRow_none (.inl hn))) H' (s2.trans s3))
        refine iteNo (dec_f fun z => hn (none_mem.mp z)) ?_
        refine ⟨_, rfl, l, _, rfl, .inl (SqL.of hl3), _, _, rfl, rfl, _, rfl, ?_⟩
        by_cases h6 : 6 < (osOf ln).length
        · exact iteT2 (show (6 : Int) < ((ys.length : Nat) : Int) by lia) (qn (pRows_none he (pRow_none (.inr h6))) H' (s2.trans s3))
        refine iteNo (decide_eq_false (show ¬ (6 : Int) < ((ys.length : Nat) : Int) by lia)) ?_
        obtain ⟨r, hr1, hr2⟩ := pRow_some hn h6
        rw [hr2] at me
        have hrow : RowA H' l r := ⟨ys, hl3, evos_some me⟩
        have hD3 := s3 _ _ hD2
        have lD : ¬ l = D := by rintro rfl; rw [hD2] at hl; cases hl
        have nt : NoTup (fun b => b = D) H' := fun b xs hb z => by rw [hb, hD3] at z; cases z
        have kk : Kept (fun b => b = D) H' (L2.upd H' D (.lst (ps.map V.ref ++ [.ref l]))) := Kept.upd rfl
        refine ⟨_, rfl, .inl ⟨rfl, _, SqL.of hD3⟩, _, rfl, D, _, _, rfl, rfl, hD3, small1000 (by rw [List.length_map]; lia), ps ++ [l], rs ++ [r], _, _, rfl, (s2.trans s3).off hD, by rw [List.map_append]; exact upd_same, by rw [snoc_take he]; exact mapM_snoc hm hr1, ?_, fun b hb => ?_⟩
        · have mp3 : Paired (RowA H') ps rs := Paired.mapP mp fun x e z => z.keep (S := fun _ => False) (fun b o e _ => s3 b o e) (fun _ _ z => z.elim) (fun z => z)
          have gen : ∀ {ps' : List Addr} {ts : Rows}, Paired (RowA H') ps' ts → (∀ b ∈ ps', ¬ b = D) → Paired (RowA (L2.upd H' D (.lst (ps.map V.ref ++ [.ref l])))) ps' ts := by
            intro ps' ts m
            induction m with
            | nil => intro _; exact .nil
            | cons h t ih => intro hn; exact .cons (h.keep kk nt (hn _ (List.mem_cons_self ..))) (ih fun b hb => hn b (List.mem_cons_of_mem _ hb))
          exact Paired.snoc (gen mp3 nd) (hrow.keep kk nt lD)
        · rcases List.mem_append.mp hb with z | z
          · exact nd b z
          · rw [List.mem_singleton.mp z]; exact lD
    · rintro σ H2 ⟨ps, rs, v2, v3, rfl, s2, hD2, hm, mp, nd⟩
      rw [List.length_map, List.take_length] at hm
      have hrl := (mapM_mem hm).1
      have hpl := Paired.length mp
      refine ⟨_, rfl, D, _, rfl, .inl (SqL.of hD2), _, _, rfl, rfl, _, rfl, ?_⟩
      by_cases h4 : ls.length ≤ 4
      · refine iteNo (decide_eq_false (show ¬ (4 : Int) < (((ps.map V.ref).length : Nat) : Int) by rw [List.length_map]; lia)) ?_
        exact ⟨_, rfl, q rs (by unfold pRows; rw [if_pos h4]; exact hm) D ps H2 s2 ⟨hD2, mp⟩⟩
      · exact iteT2 (show (4 : Int) < (((ps.map V.ref).length : Nat) : Int) by rw [List.length_map]; lia) (qn (by unfold pRows; rw [if_neg h4]) H2 s2)
end
end Cw

set_option Elab.async false
set_option linter.all false
set_option maxRecDepth 100000
set_option maxHeartbeats 4000000
namespace Cw
open PySem L2
noncomputable abbrev s_law_twice : Stmt := top 40
theorem sc_law_twice : FnScope ["rows", "one", "event", "alike"] ["rows"] (defScope s_law_twice) := ⟨rfl, rfl, rfl, by decide +kernel, rfl, by decide +kernel, by decide +kernel⟩

theorem or_and {A B u : TT} {t e : TS} {D : Ends} {σ : St} {H : Hp} (h : tAnd A B σ H fun b H1 => if b = true then (if true = true then t D σ H1 else e D σ H1) else u σ H1 fun b H1 => if b = true then t D σ H1 else e D σ H1) : tIfS (tOr (tAnd A B) u) t e D σ H := h
section
variable {P : Program} {w : World} {K : PySem.W.Frag} {mg : Str → Option Value} {base : Heap}
theorem ok_twice {f : Addr} {fd : FuncData} (F : Fun K "_law_twice" "_law_twice" s_law_twice f fd) (B : Bl mg) (D_law_events : Df P w K mg base 1 "_law_events" ["rows"] sp_events) (D_law_send : Df P w K mg base 2 "_law_send" ["rows", "letter"] sp_send) : FnOk P w K mg base CX0 3 f fd ["rows"] sp_twice := by
  have sc := sc_law_twice
  refine F.ok sc (fun vs H Q E h => ?_) (fun cdv A outer s H vs Q E hr h => ?_)
  · obtain ⟨a, ps, rs, rfl, _⟩ := h
    rfl
  · obtain ⟨a, ps, rs, rfl, hR, hB, q⟩ := h
    have hen := evs_len hB
    refine ⟨_, (pss_cons (ps_for PassesOwn.never rfl (pi_list (pe_df D_law_events (hr.mono (by decide)) (pa_cons (pv 0) pa_nil))) (pg_name (i := 1) sc.nd rfl (Or.inl rfl)) (pss_cons (ps_set (i := 2) sc.nd rfl (Or.inr rfl) (pe_ix ix_list (pe_ix ix_list (pv 0) (pe_ix ix_tup (pv 1) pe_int (fun _ _ => rfl)) (fun _ _ => rfl)) (pe_ix ix_tup (pv 1) pe_int (fun _ _ => rfl)) (fun _ _ => rfl)))
       (pss_cons (ps_setLC (i := 3) sc.nd rfl (Or.inl rfl) (te := (tVar 0)) (tt := (tTest (tOp (rEqM (MTup K MFl)) (tSl (rSlT K) (tOp (rIxL K) (tOp (rIxL K) (tVar 2) (tOp (rIxT K) (tVar 0) (tC (.int 0)))) (tOp (rIxT K) (tVar 0) (tC (.int 1)))) tNoPart (tPart (tC (.int 2)))) (tSl (rSlT K) (tVar 1) tNoPart (tPart (tC (.int 2))))))) (blk_cx (ts := ["two"]) (cap := [(2, "event"), (0, "rows")]) (by decide +kernel) (by decide +kernel) (by decide +kernel) rfl (by decide +kernel) (by decide +kernel)) rfl (pi_list (pe_df D_law_events (hr.mono (by decide)) (pa_cons (pv 0) pa_nil))) (fun _ _ _ _ => (pg_name (i := 0) (show List.Nodup (["two", "event", "rows"] : List Str) by decide +kernel) rfl (Or.inl rfl))) (fun _ _ _ _ => pifs_one (pt_cmpR (op_eqT EqOk.flat (un_of hr)) (pe_slice sl_tup (pe_ix ix_list (pe_ix ix_list (pv 2) (pe_ix ix_tup (pv 0) pe_int (fun _ _ => rfl)) (fun _ _ => rfl)) (pe_ix ix_tup (pv 0) pe_int (fun _ _ => rfl)) (fun _ _ => rfl)) po_none (po_some pe_int)) (pe_slice sl_tup (pv 1) po_none (po_some pe_int)) (nomark _))) (fun _ _ _ _ => (pv 0)))
       (pss_one (ps_if ((pw_or ((pw_and (pt_cmpR op_ne (pe_ix ix_tup (pv 2) pe_int (fun _ _ => rfl)) pe_str (nomark _)) (pw_and1 (pt_cmpR op_gt (pe_callB call_len_seqI (by rfl) (B "len" (by decide +kernel)) bt_len (pa_cons (pv 3) pa_nil)) pe_int (nomark _))))).pt (pw_or1 ((pw_and (pt_cmpR op_eq (pe_ix ix_tup (pv 2) pe_int (fun _ _ => rfl)) pe_str (nomark _)) (pw_and1 (pt_cmpR op_isN (pe_df D_law_send (hr.mono (by decide)) (pa_cons (pv 0) (pa_cons (pe_ix ix_tup (pv 2) pe_int (fun _ _ => rfl)) pa_nil))) pe_non (nomark _))))).pt))).pt (pss_one (ps_ret pe_bl)) pss_nil)))))
       (pss_one (ps_ret pe_bl))), ?_⟩
    refine ⟨_, rfl, a, ps, rs, rfl, hR, hB, fun g H1 s1 hg hE => ?_⟩
    obtain ⟨zs, hzs, mz⟩ := id hE
    have hzl := Paired.length mz
    refine ⟨g, rfl, ⟨_, SqL.of hzs⟩, for_list (K := K) (a := g) (xs := zs) (fun j σ H2 => Same H1 H2 ∧ (∃ v1 v2 v3, σ = [some (.ref a), v1, v2, v3]) ∧ ∀ (i : Nat) (o : Pl) (e : Ev), i < j → (evs rs)[i]? = some o → at? rs o.1 o.2 = some e → ¬ BadAt rs e)
      ⟨Same.refl _, ⟨_, _, _, rfl⟩, fun i o e hi => absurd hi (Nat.not_lt_zero _)⟩ (fun j σ H2 _ ⟨s2, _⟩ => SqL.of (s2 _ _ hzs)) ?_ ?_⟩
    · rintro j y σ H2 hj ⟨s2, ⟨v1, v2, v3, rfl⟩, hno⟩
      obtain ⟨o, ho, t, rfl, ht⟩ := Paired.get mz hj
      obtain ⟨e, he⟩ := mem_evs'.mp (List.mem_of_getElem? ho)
      have s12 := s1.trans s2
      have R2 := hR.same s12
      have ht2 : H2 t = some (.tup (posV o)) := s2 _ _ ht
      obtain ⟨rp, xs, te, hm, hx, hy, hte⟩ := R2.ev he
      refine ⟨_, rfl, _, rfl, t, _, 0, _, rfl, rfl, SqT.of ht2, rfl, a, _, _, _, rfl, rfl, SqL.of R2.top, atI_nat hm, _, rfl, t, _, 1, _, rfl, rfl, SqT.of ht2, rfl, rp, xs, _, _, rfl, rfl, SqL.of hx, atI_nat hy, ?_⟩
      refine ⟨_, rfl, a, ps, rs, rfl, R2, hB, fun g2 H3 s3 hg2 hE3 => ?_⟩
      obtain ⟨ws, hws, mw⟩ := id hE3
      have hwl := Paired.length mw
      have hte3 := s3 _ _ hte
      have R3 := R2.same s3
      refine ⟨g2, rfl, ⟨_, SqL.of hws⟩, fun D hD => lc_list (K := K) (a := g2) (xs := ws) (fun i σ ys H4 => ∃ v, σ = [v, some (.ref te), some (.ref a)] ∧ Same H3 H4 ∧ H4 D = some (.lst ys) ∧ ys.length = ((evs rs).take i).countP (hdB rs e))
        ⟨_, rfl, Same.new hD, upd_same, rfl⟩ (fun i σ ys H4 _ ⟨v, _, s4, _⟩ => SqL.of (s4 _ _ hws)) ?_ ?_⟩
      · rintro i y σ ys H4 hi ⟨v, rfl, s4, hD4, hyl⟩
        obtain ⟨o2, ho2, t2, rfl, ht2'⟩ := Paired.get mw hi
        obtain ⟨e2, he2⟩ := mem_evs'.mp (List.mem_of_getElem? ho2)
        have R4 := R3.same s4
        have ht4 : H4 t2 = some (.tup (posV o2)) := s4 _ _ ht2'
        obtain ⟨rp2, xs2, te2, hm2, hx2, hy2, hte2⟩ := R4.ev he2
        have hte4 := s4 _ _ hte3
        have hcl : ((evs rs).take i).countP (hdB rs e) ≤ 24 := Nat.le_trans List.countP_le_length (Nat.le_trans (List.length_take_le' _ _) hen)
        refine ⟨_, rfl, _, rfl, t2, _, 0, _, rfl, rfl, SqT.of ht4, rfl, a, _, _, _, rfl, rfl, SqL.of R4.top, atI_nat hm2, _, rfl, t2, _, 1, _, rfl, rfl, SqT.of ht4, rfl, rp2, xs2, _, _, rfl, rfl, SqL.of hx2, atI_nat hy2, _, rfl, te2, _, rfl, SqT.of hte2, head_part e2, fun p hp => ?_⟩
        rw [head_cut]
        have s5 := Same.new (o := .tup [.str e2.k.str, .int e2.l]) hp
        refine ⟨_, rfl, _, rfl, te, _, rfl, SqT.of (s5 _ _ hte4), head_part e, fun p2 hp2 => ?_⟩
        rw [head_cut]
        have s6 := Same.new (o := .tup [.str e.k.str, .int e.l]) hp2
        refine ⟨_, _, head_mean K (k := e2.k) (s6 _ _ upd_same), head_mean K (k := e.k) upd_same, _, rfl, ?_⟩
        rw [head_dec]
        have s46 := s4.trans (s5.trans s6)
        have hD6 := s6 _ _ (s5 _ _ hD4)
        by_cases h1 : e2.k = e.k ∧ e2.l = e.l
        · refine iteT2 h1 ?_
          refine ⟨_, rfl, hD6, small1000 (by lia), _, rfl, s46.off hD, upd_same, ?_⟩
          rw [snoc_take ho2, List.countP_append, List.length_append, hyl, List.countP_singleton, hdB_at he2, decide_eq_true h1]
          rfl
        · refine iteNo (decide_eq_false h1) ?_
          refine ⟨_, rfl, s46, hD6, ?_⟩
          rw [snoc_take ho2, List.countP_append, hyl, List.countP_singleton, hdB_at he2, decide_eq_false h1]
          rfl
      · rintro σ ys H4 ⟨v, rfl, s4, hD4, hyl⟩
        rw [hwl, List.take_length] at hyl
        have hte4 := s4 _ _ hte3
        have s14 := (s12.trans s3).trans s4
        have yes : ∀ H5, Same H4 H5 → BadAt rs e → Q (.bl true) H5 := fun H5 s5 hbad => q true H5 (s14.trans s5) ⟨fun _ => bad_iff.mpr ⟨o, e, he, hbad⟩, fun _ => rfl⟩
        have no : ∀ (H5 : Hp) (σ' : St), Same H4 H5 → ¬ BadAt rs e → (∃ v1 v2 v3, σ' = [some (.ref a), v1, v2, v3]) → Same H1 H5 ∧ (∃ v1 v2 v3, σ' = [some (.ref a), v1, v2, v3]) ∧ ∀ (i : Nat) (o : Pl) (e : Ev), i < j + 1 → (evs rs)[i]? = some o → at? rs o.1 o.2 = some e → ¬ BadAt rs e := fun H5 σ' s5 hbad hσ => by
          refine ⟨((s2.trans s3).trans s4).trans s5, hσ, fun i o' e' hi ho' he' => ?_⟩
          by_cases ei : i = j
          · subst ei
            rw [ho] at ho'
            cases ho'
            rw [he] at he'
            cases he'
            exact hbad
          · exact hno i o' e' (by lia) ho' he'
        refine gset_nx (or_and ?_)
        refine tAnd_mk (c := !decide (V.str e.k.str = V.str "own")) (d := decide ((1 : Int) < ((ys.length : Nat) : Int))) (fun R h => ⟨_, rfl, te, _, 0, _, rfl, rfl, SqT.of hte4, rfl, rfl, _, rfl, h⟩) (fun _ R h => ⟨_, rfl, D, _, rfl, .inl (SqL.of hD4), _, _, rfl, rfl, _, rfl, h⟩) ?_
        have ek : ∀ k : Kd, (V.str e.k.str = V.str k.str) ↔ e.k = k := fun k => ⟨fun z => Kd.str_inj (V.str.inj z), fun z => by rw [z]⟩
        by_cases hA : e.k ≠ .own ∧ 1 < (evs rs).countP (hdB rs e)
        · have e1 : decide (V.str e.k.str = V.str "own") = false := decide_eq_false fun z => hA.1 ((ek .own).mp z)
          rw [e1, decide_eq_true (show (1 : Int) < ((ys.length : Nat) : Int) by lia)]
          exact iteT (iteT (yes H4 (Same.refl _) (.inl hA)))
        refine iteNo ?_ ?_
        · rw [Bool.eq_false_iff]
          intro z
          have z := Bool.and_eq_true _ _ ▸ z
          refine hA ⟨fun y => ?_, by have := of_decide_eq_true z.2; lia⟩
          have z1 := z.1
          rw [show decide (V.str e.k.str = V.str "own") = true from decide_eq_true ((ek .own).mpr y)] at z1
          cases z1
        refine ⟨_, rfl, te, _, 0, _, rfl, rfl, SqT.of hte4, rfl, rfl, _, rfl, ?_⟩
        by_cases hk : e.k = .take
        case neg =>
          refine iteNo (decide_eq_false fun z => hk ((ek .take).mp z)) ?_
          refine iteF ?_
          exact no H4 _ (Same.refl _) (fun z => by rcases z with z | z; exact hA z; exact hk z.1) ⟨_, _, _, rfl⟩
        refine iteT2 ((ek .take).mpr hk) ?_
        refine ⟨_, rfl, _, rfl, te, _, 1, _, rfl, rfl, SqT.of hte4, rfl, a, ps, rs, e.l, rfl, R3.same s4, hB, fun v H5 s5 hv => ⟨rfl, _, rfl, ?_⟩⟩
        rcases hv with ⟨t', o', e', rfl, ht', he', hk', hl'⟩ | ⟨rfl, hnone⟩
        · refine iteNo (decide_eq_false fun z => by cases z) ?_
          exact no H5 _ s5 (fun z => by rcases z with z | z; exact hA z; exact z.2 o' e' he' hk' hl') ⟨_, _, _, rfl⟩
        · exact iteT2 rfl (yes H5 s5 (.inr ⟨hk, hnone⟩))
    · rintro σ H2 ⟨s2, ⟨v1, v2, v3, rfl⟩, hno⟩
      refine q false H2 (s1.trans s2) ⟨fun z => (nomatch z), fun hb => ?_⟩
      obtain ⟨o, e, he, hbad⟩ := bad_iff.mp hb
      obtain ⟨i, hi⟩ := List.getElem?_of_mem (mem_evs'.mpr ⟨e, he⟩)
      exact absurd hbad (hno i o e (by rw [hzl]; exact (List.getElem?_eq_some_iff.mp hi).1) hi he)
end
end Cw

set_option Elab.async false
set_option linter.all false
set_option maxRecDepth 100000
set_option maxHeartbeats 4000000
namespace Cw
open PySem L2
noncomputable abbrev s_law_alone : Stmt := top 35
theorem sc_law_alone : FnScope ["e", "found"] ["e"] (defScope s_law_alone) := ⟨rfl, rfl, rfl, by decide +kernel, rfl, by decide +kernel, by decide +kernel⟩

section
variable {P : Program} {w : World} {K : PySem.W.Frag} {mg : Str → Option Value} {base : Heap}
theorem ok_alone3 {f C RE BL RI NE NC NN pK : Addr} {fd : FuncData} (F : Fun K "_law_alone" "_law_alone" s_law_alone f fd) (B : Bl mg) (Z : ExcU K w mg C RE BL RI NE NC NN pK) : FnOk P w K mg base CX0 1 f fd ["e"] (sp_alone3 BL RI NN) := by
  have sc := sc_law_alone
  refine F.ok sc (fun vs H Q E h => ?_) (fun cdv A outer s H vs Q E hr h => ?_)
  · obtain ⟨e, D, od, n, rfl, _⟩ := h
    rfl
  · obtain ⟨e, D, od, n, rfl, he, h2, q⟩ := h
    have T : ∀ H', Same H H' → TyX K H' (.ref e) (.ref D) := fun H' s' => by
      rcases h2 with ⟨rfl, rfl, rfl⟩ | ⟨rfl, rfl, dx, fs, rfl, hd⟩ | ⟨rfl, rfl, rfl⟩
      · exact .exc (s' _ _ he) Z.a_BadLetter
      · exact .excD (s' _ _ he) (s' _ _ hd) Z.a_Ring
      · exact .exc (s' _ _ he) Z.a_NoNote
    obtain ⟨b0, b1, b2, b3, b4, k0, k1, k2, k3, k4, k5, k6, hc, hn, hf⟩ : ∃ b0 b1 b2 b3 b4 : Bool, PySem.W.kitOne K (.ref D) (.ref BL) = some b0 ∧ PySem.W.kitOne K (.ref D) (.ref RI) = some b1 ∧ PySem.W.kitOne K (.ref D) (.ref NE) = some b2 ∧ PySem.W.kitOne K (.ref D) (.ref NC) = some b3 ∧ PySem.W.kitOne K (.ref D) (.ref NN) = some b4 ∧ PySem.W.kitOne K (.ref D) (.ref RE) = some true ∧ PySem.W.kitOne K (.ref D) (.type "ValueError") = some true ∧ ([b0, b1, b2, b3, b4].countP fun b => decide (b = true)) = 1 ∧ [b0, b1, b2, b3, b4][n]? = some true ∧ ∀ i : Nat, i < n → [b0, b1, b2, b3, b4][i]? ≠ some true := by
      rcases h2 with ⟨rfl, rfl, rfl⟩ | ⟨rfl, rfl, dx, fs, rfl, hd⟩ | ⟨rfl, rfl, rfl⟩
      · obtain ⟨k0, k1, k2, k3, k4, k5, k6⟩ := Z.k_BadLetter
        exact ⟨_, _, _, _, _, k0, k1, k2, k3, k4, k5, k6, by decide, rfl, fun i hi => absurd hi (Nat.not_lt_zero _)⟩
      · obtain ⟨k0, k1, k2, k3, k4, k5, k6⟩ := Z.k_Ring
        refine ⟨_, _, _, _, _, k0, k1, k2, k3, k4, k5, k6, by decide, rfl, fun i hi => ?_⟩
        match i, hi with
        | 0, _ => decide
      · obtain ⟨k0, k1, k2, k3, k4, k5, k6⟩ := Z.k_NoNote
        refine ⟨_, _, _, _, _, k0, k1, k2, k3, k4, k5, k6, by decide, rfl, fun i hi => ?_⟩
        match i, hi with
        | 0, _ => decide
        | 1, _ => decide
        | 2, _ => decide
        | 3, _ => decide
    clear h2
    refine ⟨_, (pss_cons (ps_set (i := 1) sc.nd rfl (Or.inl rfl) (pe_lst (pa_cons (pe_callB call_isinstX (by rfl) (B "isinstance" (by decide +kernel)) bt_isinstance (pa_cons (pv 0) (pa_cons (pe_glob (v := .ref _) (by rfl) Z.m_BadLetter rfl) pa_nil))) (pa_cons (pe_callB call_isinstX (by rfl) (B "isinstance" (by decide +kernel)) bt_isinstance (pa_cons (pv 0) (pa_cons (pe_glob (v := .ref _) (by rfl) Z.m_Ring rfl) pa_nil))) (pa_cons (pe_callB call_isinstX (by rfl) (B "isinstance" (by decide +kernel)) bt_isinstance (pa_cons (pv 0) (pa_cons (pe_glob (v := .ref _) (by rfl) Z.m_NoEvent rfl) pa_nil))) (pa_cons (pe_callB call_isinstX (by rfl) (B "isinstance" (by decide +kernel)) bt_isinstance (pa_cons (pv 0) (pa_cons (pe_glob (v := .ref _) (by rfl) Z.m_NoCut rfl) pa_nil))) pa_nil))))))
       (pss_cons (ps_set (i := 1) sc.nd rfl (Or.inl rfl) (pe_op op_cat (pv 1) (pe_lst (pa_cons (pe_callB call_isinstX (by rfl) (B "isinstance" (by decide +kernel)) bt_isinstance (pa_cons (pv 0) (pa_cons (pe_glob (v := .ref _) (by rfl) Z.m_NoNote rfl) pa_nil))) pa_nil))))
       (pss_cons (ps_if ((pw_or (pt_not (pt_val (pe_callB call_isinstX (by rfl) (B "isinstance" (by decide +kernel)) bt_isinstance (pa_cons (pv 0) (pa_cons (pe_glob (v := .ref _) (by rfl) Z.m_RecordError rfl) pa_nil))))) (pw_or (pt_not (pt_val (pe_callB call_isinstX (by rfl) (B "isinstance" (by decide +kernel)) bt_isinstance (pa_cons (pv 0) (pa_cons (pe_bltn (v := .ty "ValueError") (by rfl) Z.m_ValueError bt_ValueError rfl) pa_nil))))) (pw_or1 (pt_cmpR op_ne (pe_bm PySem.F.plainAttrs_list PySem.F.slot_list_count PySem.F.type_list_count (mt_count EqOk.bool (un_of hr)) (pv 1) (pa_cons pe_bl pa_nil)) pe_int (nomark _)))))).pt (pss_one (ps_ret (pe_un un_neg pe_int))) pss_nil)
       (pss_one (ps_ret (pe_bm PySem.F.plainAttrs_list PySem.F.slot_list_index PySem.F.type_list_index (mt_index EqOk.bool (un_of hr)) (pv 1) (pa_cons pe_bl pa_nil))))))), ?_⟩
    have T0 := T H (Same.refl _)
    refine ⟨_, rfl, _, _, _, _, _, rfl, rfl, T0, k0, _, rfl, _, _, _, _, _, rfl, rfl, T0, k1, _, rfl, _, _, _, _, _, rfl, rfl, T0, k2, _, rfl, _, _, _, _, _, rfl, rfl, T0, k3, (by show 4 ≤ sizeLine; decide), fun l hl => ?_⟩
    have s1 := Same.new (o := .lst [.bl b0, .bl b1, .bl b2, .bl b3]) hl
    refine ⟨_, rfl, _, rfl, _, _, _, _, _, rfl, rfl, T _ s1, k4, (by show 1 ≤ sizeLine; decide), fun l2 hl2 => ?_⟩
    have s2 := Same.new (o := .lst [.bl b4]) hl2
    have hl' := s2 _ _ (upd_same (H := H) (a := l) (o := .lst [.bl b0, .bl b1, .bl b2, .bl b3]))
    refine ⟨l, l2, _, _, rfl, rfl, hl', upd_same, (by show 5 ≤ sizeLine; decide), fun l3 hl3 => ?_⟩
    have s3 := (s1.trans s2).trans (Same.new (o := .lst ([.bl b0, .bl b1, .bl b2, .bl b3] ++ [.bl b4])) hl3)
    have T3 := T _ s3
    have hL : L2.upd (L2.upd (L2.upd H l (.lst [.bl b0, .bl b1, .bl b2, .bl b3])) l2 (.lst [.bl b4])) l3 (.lst ([.bl b0, .bl b1, .bl b2, .bl b3] ++ [.bl b4])) l3 = some (.lst [.bl b0, .bl b1, .bl b2, .bl b3, .bl b4]) := upd_same
    generalize L2.upd (L2.upd (L2.upd H l (.lst [.bl b0, .bl b1, .bl b2, .bl b3])) l2 (.lst [.bl b4])) l3 (.lst ([.bl b0, .bl b1, .bl b2, .bl b3] ++ [.bl b4])) = H3 at s3 T3 hL
    have mL : MLst K MBo H3 (.ref l3) [b0, b1, b2, b3, b4] := ⟨l3, _, rfl, SqL.of hL, .cons rfl (.cons rfl (.cons rfl (.cons rfl (.cons rfl .nil))))⟩
    refine ⟨_, rfl, _, _, _, _, _, rfl, rfl, T3, k5, true, rfl, ?_⟩
    refine iteF ?_
    refine ⟨_, rfl, _, _, _, _, _, rfl, rfl, T3, k6, true, rfl, ?_⟩
    refine iteF ?_
    refine ⟨_, rfl, .inl ⟨rfl, _, SqL.of hL⟩, _, true, _, rfl, rfl, mL, ?_⟩
    rw [hc]
    refine ⟨rfl, _, rfl, ?_⟩
    refine iteNS rfl ?_
    exact ⟨_, rfl, .inl ⟨rfl, _, SqL.of hL⟩, _, true, _, n, rfl, rfl, mL, hn, hf, q H3 s3⟩
end
end Cw

set_option Elab.async false
set_option linter.all false
set_option maxRecDepth 100000
set_option maxHeartbeats 4000000
namespace Cw
open PySem L2
noncomputable abbrev s_law : Stmt := top 42
theorem sc_law : FnScope ["script", "lines", "k", "many", "found", "e", "rows"] ["script"] (defScope s_law) := ⟨rfl, rfl, rfl, by decide +kernel, rfl, by decide +kernel, by decide +kernel⟩

theorem tjoinU (s : Str) (ps : List Str) : Txt.join s ps = Str.join s ps := StrLaws.glued_eq_join s ps
structure LnOk (x : Str) : Prop where
  len : x.length ≤ 150
  asc : ∀ c ∈ cl x, c < 128 ∧ c ≠ 10
theorem LnOk.txt {x : Str} (h : LnOk x) : TxtOk x := ⟨h.len, fun c hc => (h.asc c hc).1⟩
theorem LnOk.nl {x : Str} (h : LnOk x) : 10 ∉ cl x := fun z => (h.asc 10 z).2 rfl
theorem line_ok {ws : List Str} (hl : ws.length ≤ 7) (h : ∀ x ∈ ws, WOk x) : LnOk (Str.join (one 32) ws) := by
  constructor
  · have h1 := StrLaws.join_length_le (one 32) ws
    have h2 := lens_le (B := 15) id ws fun x hx => (h x hx).len
    rw [List.map_id] at h2
    have h3 : (one 32).length = 1 := rfl
    rw [h3] at h1
    lia
  · intro c hc
    rcases join_codes hc with rfl | ⟨p, hp, hcp⟩
    · decide
    · exact (h p hp).asc c hcp
structure LsOk (ls : List Str) : Prop where
  ne : ls ≠ []
  len : ls.length ≤ 5
  ln : ∀ l ∈ ls, LnOk l
theorem LsOk.text {ls : List Str} (h : LsOk ls) : (Str.join (one 10) ls).length ≤ 2000 := by
  have h1 := StrLaws.join_length_le (one 10) ls
  have h2 := lens_le (B := 150) id ls fun x hx => (h.ln x hx).len
  rw [List.map_id] at h2
  have h3 : (one 10).length = 1 := rfl
  rw [h3] at h1
  have := h.len
  lia
theorem Val.notBad {rs : Rows} (v : Val rs) : ¬ Bad rs := fun z => by
  rcases z with z | z | z
  · exact z v.us
  · exact z v.ut
  · exact z v.sent
section
variable {P : Program} {w : World} {K : PySem.W.Frag} {mg : Str → Option Value} {base : Heap}
theorem ok_law {f C RE BL RI NE NC NN pK : Addr} {fd : FuncData} (F : Fun K "law" "law" s_law f fd) (B : Bl mg) (R : RecC K C) (Z : ExcU K w mg C RE BL RI NE NC NN pK) (D_law_draw : Df P w K mg base 2 "_law_draw" ["script", "k"] (sp_draw K)) (D_law_word : Df P w K mg base 1 "_law_word" ["cell"] sp_word) (D_read : DfR P w K mg base 6 "read" ["note"] (sp_readR C BL RI NN))
    (D_law_rows : Df P w K mg base 3 "_law_rows" ["lines"] (sp_lrows K)) (D_law_alone : Df P w K mg base 1 "_law_alone" ["e"] (sp_alone3 BL RI NN)) (D_law_twice : Df P w K mg base 3 "_law_twice" ["rows"] sp_twice) (D_law_ends : Df P w K mg base 3 "_law_ends" ["rows"] sp_ends) : FnOk P w K mg base CX0 7 f fd ["script"] (sp_law K) := by
  have sc := sc_law
  refine F.ok sc (fun vs H Q E h => ?_) (fun cdv A outer s H vs Q E hr h => ?_)
  · obtain ⟨a, ns, rfl, _⟩ := h
    rfl
  · obtain ⟨a, ns, rfl, hS, hlen, q⟩ := h
    obtain ⟨W1, hW⟩ : ∃ W1 : St → XK, W1 = fun σ c od H1 => ∃ (L : Addr) (ls : List Str) (v2 v3 : Option V), σ = [some (.ref a), some (.ref L), v2, v3, some .non, none, none] ∧ H1 L = some (.lst (ls.map V.str)) ∧ LsOk ls ∧
        ((c = .ref NN ∧ od = none ∧ pRows ls = none) ∨ (c = .ref BL ∧ od = none ∧ ∃ rs, pRows ls = some rs ∧ Bad rs) ∨ (c = .ref RI ∧ ∃ (rs : Rows) (l : List Pl) (dd l2 : Addr), od = some dd ∧ pRows ls = some rs ∧ Uniq .send rs ∧ Uniq .take rs ∧ Sent rs ∧ RingL rs l ∧ H1 dd = some (.xd [("events", .ref l2)]))) := ⟨_, rfl⟩
    refine ⟨_, (pss_cons (ps_set (i := 1) sc.nd rfl (Or.inl rfl) (pe_lst pa_nil))
       (pss_cons (ps_for PassesOwn.never rfl (pi_range1 rfl (B "range" (by decide +kernel)) (pa_cons (pe_op op_add pe_int (pe_op op_mod (pe_df D_law_draw (hr.mono (by decide)) (pa_cons (pv 0) (pa_cons pe_int pa_nil))) pe_int)) pa_nil)) (pg_name (i := 2) sc.nd rfl (Or.inr rfl)) (pss_cons (ps_set (i := 3) sc.nd rfl (Or.inl rfl) (pe_op op_add (pe_op op_mod (pe_df D_law_draw (hr.mono (by decide)) (pa_cons (pv 0) (pa_cons (pe_op op_add pe_int (pv 2)) pa_nil))) pe_int) (pe_op op_mul pe_int (pe_callTy call_intB (by rfl) (B "int" (by decide +kernel)) bt_int (pa_cons (pe_cmpR op_eq (pe_op op_mod (pe_df D_law_draw (hr.mono (by decide)) (pa_cons (pv 0) (pa_cons (pe_op op_add pe_int (pv 2)) pa_nil))) pe_int) pe_int (nomark _)) pa_nil)))))
       (pss_one (ps_expr (pe_bm PySem.F.plainAttrs_list PySem.F.slot_list_append PySem.F.type_list_append mt_append (pv 1) (pa_cons (pe_bm PySem.F.plainAttrs_str PySem.F.slot_str_join PySem.F.type_str_join mt_sjoin pe_str (pa_cons (pe_lc (te := (tCall sp_word [] E0 (tCons (tCall (sp_draw K) [] E0 (tCons (tVar 1) (tCons (tOp (rI0 fun i j => .int (i + j)) (tOp (rI0 fun i j => .int (i + j)) (tC (.int 20)) (tOp (rI CMul fun i j => .int (i * j)) (tC (.int 8)) (tVar 2))) (tVar 0)) tNil))) tNil))) (tt := tTrue) (blk_cx (ts := ["j"]) (cap := [(0, "script"), (2, "k")]) (by decide +kernel) (by decide +kernel) (by decide +kernel) rfl (by decide +kernel) (by decide +kernel)) rfl (pi_range1 rfl (B "range" (by decide +kernel)) (pa_cons (pv 3) pa_nil)) (fun _ _ _ _ => (pg_name (i := 0) (show List.Nodup (["j", "script", "k"] : List Str) by decide +kernel) rfl (Or.inl rfl))) (fun _ _ _ _ => pifs_nil) (fun _ _ _ _ => (pe_df D_law_word (hr.mono (by decide)) (pa_cons (pe_df D_law_draw (hr.mono (by decide)) (pa_cons (pv 1) (pa_cons (pe_op op_add (pe_op op_add pe_int (pe_op op_mul pe_int (pv 2))) (pv 0)) pa_nil))) pa_nil)))) pa_nil)) pa_nil))))))
       (pss_cons (ps_set (i := 4) sc.nd rfl (Or.inl rfl) pe_non)
       (pss_cons (ps_try (i := 5) (W := W1) rfl sc.nd rfl rfl rfl Z.m_RecordError Z.root (fun p0 xe L O => (pss_one (ps_set (i := 4) sc.nd rfl (Or.inl rfl) (pe_dfR D_read L (hr.mono (by decide)) (pa_cons (show PE _ _ (tBM K "str" (rSJoin K) _ _) from pe_bm PySem.F.plainAttrs_str PySem.F.slot_str_join PySem.F.type_str_join mt_sjoin pe_str (pa_cons (pv 1) pa_nil)) pa_nil))))) (fun v => (pss_one (ps_set (i := 4) sc.nd rfl (Or.inl rfl) (pv 5)))))
       (pss_cons (ps_set (i := 6) sc.nd rfl (Or.inl rfl) (pe_df D_law_rows (hr.mono (by decide)) (pa_cons (pv 1) pa_nil)))
       (pss_cons (ps_if (pt_cmpR op_isN (pv 6) pe_non (nomark _)) (pss_one (ps_ret (pe_cmpR op_eq (pe_df D_law_alone (hr.mono (by decide)) (pa_cons (pv 4) pa_nil)) pe_int (nomark _)))) pss_nil)
       (pss_cons (ps_if (pt_val (pe_df D_law_twice (hr.mono (by decide)) (pa_cons (pv 6) pa_nil))) (pss_one (ps_ret (pe_cmpR op_eq (pe_df D_law_alone (hr.mono (by decide)) (pa_cons (pv 4) pa_nil)) pe_int (nomark _)))) pss_nil)
       (pss_cons (ps_if (pt_not (pt_val (pe_df D_law_ends (hr.mono (by decide)) (pa_cons (pv 6) pa_nil)))) (pss_one (ps_ret (pe_cmpR op_eq (pe_df D_law_alone (hr.mono (by decide)) (pa_cons (pv 4) pa_nil)) pe_int (nomark _)))) pss_nil)
       (pss_one (ps_ret (pe_and (pe_callB call_isinstX (by rfl) (B "isinstance" (by decide +kernel)) bt_isinstance (pa_cons (pv 4) (pa_cons (pe_glob (v := .ref _) (by rfl) Z.m_Record rfl) pa_nil))) (pe_one (pe_cmpR (op_eqL ((EqOk.flat).tup).lst (un_of hr)) (pe_fld (pv 4) rfl) (pv 6) (nomark _)))))))))))))), ?_⟩
    refine ⟨Nat.zero_le _, fun L hL => ?_⟩
    have hd0 := Int.emod_nonneg (draw ns 0) (show (5 : Int) ≠ 0 by decide)
    have hd1 := Int.emod_lt_of_pos (draw ns 0) (show (0 : Int) < 5 by decide)
    refine ⟨_, rfl, a, ns, 0, rfl, (Same.new hL).seq hS, by decide, _, _, rfl, rfl, (by show (0 : Int) < 5; decide), _, _, rfl, rfl, _, rfl, by lia, by lia,
      for_range (lo := 0) (n := (1 + draw ns 0 % 5).toNat) (fun i σ H2 => Same H H2 ∧ ∃ ls v2 v3, σ = [some (.ref a), some (.ref L), v2, v3, none, none, none] ∧ H2 L = some (.lst (ls.map V.str)) ∧ ls.length = i ∧ ∀ l ∈ ls, LnOk l)
      ⟨Same.new hL, [], _, _, rfl, upd_same, rfl, fun l hl => (nomatch hl)⟩ ?_ ?_⟩
    · rintro i σ H2 hi ⟨s2, ls, v2, v3, rfl, hL2, hll, hls⟩
      rw [show (0 : Int) + ((i : Nat) : Int) = ((i : Nat) : Int) from Int.zero_add _]
      refine ⟨_, rfl, _, rfl, _, _, rfl, rfl, a, ns, _, rfl, s2.seq hS, (by show (0 : Int) ≤ 1 + ((i : Nat) : Int); lia), _, _, rfl, rfl, (by show (0 : Int) < 4; decide), _, rfl, _, rfl, _, _, rfl, rfl, a, ns, _, rfl, s2.seq hS, (by show (0 : Int) ≤ 7 + ((i : Nat) : Int); lia), _, _, rfl, rfl, (by show (0 : Int) < 9; decide), rfl, _, rfl, _, _, rfl, rfl, .inl ⟨by decide, by decide⟩, _, _, rfl, rfl, ?_⟩
      have hm0 := Int.emod_nonneg (draw ns (1 + ((i : Nat) : Int))) (show (4 : Int) ≠ 0 by decide)
      have hm1 := Int.emod_lt_of_pos (draw ns (1 + ((i : Nat) : Int))) (show (0 : Int) < 4 by decide)
      have hmb : 0 ≤ draw ns (1 + ((i : Nat) : Int)) % 4 + 4 * (if decide (V.int (draw ns (7 + ((i : Nat) : Int)) % 9) = V.int 1) = true then 1 else 0) ∧ draw ns (1 + ((i : Nat) : Int)) % 4 + 4 * (if decide (V.int (draw ns (7 + ((i : Nat) : Int)) % 9) = V.int 1) = true then 1 else 0) ≤ 7 := by
        split <;> lia
      generalize draw ns (1 + ((i : Nat) : Int)) % 4 + 4 * (if decide (V.int (draw ns (7 + ((i : Nat) : Int)) % 9) = V.int 1) = true then 1 else 0) = many at hmb
      refine ⟨_, rfl, .inl ⟨rfl, _, SqL.of hL2⟩, rfl, _, rfl, _, rfl, by lia, by lia, fun D hD => lc_range (lo := 0) (n := many.toNat) (fun j σ ys H3 => ∃ v ws, σ = [v, some (.ref a), some (.int ((i : Nat) : Int))] ∧ ys = ws.map V.str ∧ ws.length = j ∧ (∀ x ∈ ws, WOk x) ∧ Same H2 H3 ∧ H3 D = some (.lst ys))
        ⟨_, [], rfl, rfl, rfl, fun x hx => (nomatch hx), Same.new hD, upd_same⟩ ?_ ?_⟩
      · rintro j σ ys H3 hj ⟨v, ws, rfl, rfl, hwl, hws, s3, hD3⟩
        rw [show (0 : Int) + ((j : Nat) : Int) = ((j : Nat) : Int) from Int.zero_add _]
        refine ⟨_, rfl, _, rfl, _, _, rfl, rfl, .inl ⟨by decide, by decide⟩, _, _, rfl, rfl, _, rfl, _, _, rfl, rfl, a, ns, _, rfl, (s2.trans s3).seq hS, (by show (0 : Int) ≤ 20 + 8 * ((i : Nat) : Int) + ((j : Nat) : Int); lia), _, rfl, draw_nn _ _, Int.lt_trans (draw_lt _ _) (by decide), fun x H4 s4 hx => ?_⟩
        have hD4 := s4 _ _ hD3
        refine ⟨hD4, small1000 (by rw [List.length_map]; lia), _, ws ++ [x], rfl, by rw [List.map_append]; rfl, by rw [List.length_append, List.length_singleton]; lia, fun y hy => ?_, (s3.trans s4).off hD, upd_same⟩
        rcases List.mem_append.mp hy with z | z
        · exact hws y z
        · rw [List.mem_singleton.mp z]; exact hx
      · rintro σ ys H3 ⟨v, ws, rfl, rfl, hwl, hws, s3, hD3⟩
        have hL3 := s3 _ _ hL2
        refine ⟨_, D, ws, rfl, rfl, SqL.of hD3, join_ok (B := 15) (fun y hy => (hws y hy).len) (by rw [show (Str.ofString " ").length = 1 from rfl]; lia), L, _, _, rfl, rfl, hL3, small1000 (by rw [List.length_map]; lia), (s2.trans s3).off hL, ls ++ [Str.join (one 32) ws], _, _, rfl, by rw [List.map_append, ← lit_sp, ← tjoinU]; exact upd_same, by rw [List.length_append, List.length_singleton]; lia, fun y hy => ?_⟩
        rcases List.mem_append.mp hy with z | z
        · exact hls y z
        · rw [List.mem_singleton.mp z]; exact line_ok (by lia) hws
    rintro σ H2 ⟨s2, ls, v2, v3, rfl, hL2, hll, hls⟩
    have hK : LsOk ls := ⟨fun z => by rw [z] at hll; simp at hll; lia, by lia, hls⟩
    clear hll hls s2 hd0 hd1
    have hlen10 : ls.length ≤ 10 := by have := hK.len; lia
    have hl150 : ∀ l ∈ ls, l.length ≤ 150 := fun l hl => (hK.ln l hl).len
    refine ⟨⟨rfl, _, rfl, _, L, ls, rfl, rfl, SqL.of hL2, join_ok (B := 150) hl150 (by rw [show (Str.ofString "\n").length = 1 from rfl]; lia), _, ls, rfl, (by rw [lit_nl, tjoinU]; exact hK.text), (by rw [lit_nl, tjoinU]; exact split_join hK.ne fun p hp => (hK.ln p hp).nl), hlen10, fun l hl => (hK.ln l hl).txt, ?_, ?_, ?_, ?_⟩, ?_⟩
    · intro hn H3 s3
      rw [hW]
      exact ⟨L, ls, v2, v3, rfl, s3 _ _ hL2, hK, .inl ⟨rfl, rfl, hn⟩⟩
    · intro rs hrs hb H3 s3
      rw [hW]
      exact ⟨L, ls, v2, v3, rfl, s3 _ _ hL2, hK, .inr (.inl ⟨rfl, rfl, rs, hrs, hb⟩)⟩
    · intro rs hrs hV x r qs sd td H3 s3 hRec
      have hL3 := s3 _ _ hL2
      refine ⟨_, rfl, L, ls, rfl, hL3, hlen10, hl150, fun rs' hrs' a' ps' H4 s4 hR' => ?_, fun hn => by rw [hn] at hrs; cases hrs⟩
      rw [hrs] at hrs'
      cases hrs'
      refine ⟨_, rfl, rfl, _, rfl, ?_⟩
      refine iteNo (decide_eq_false fun z => by cases z) ?_
      refine ⟨_, rfl, a', ps', rs, rfl, hR', hV.bnd, fun b H5 s5 hb => ⟨b, rfl, ?_⟩⟩
      have eb : b = false := by
        cases b with
        | false => rfl
        | true => exact absurd (hb.mp rfl) hV.notBad
      subst eb
      refine iteF ?_
      have R5 := hR'.same s5
      refine ⟨_, rfl, a', ps', rs, rfl, R5, hV.bnd, hV.us, hV.sent, fun b H6 s6 hb => ⟨b, rfl, ?_⟩⟩
      rw [hb.mpr hV.ord]
      refine iteF ?_
      have A6 := hRec.same ((s4.trans s5).trans s6)
      obtain ⟨dx, hx⟩ := A6.ob
      refine ⟨_, rfl, _, _, _, _, _, rfl, rfl, .of (.ins hx R.cl Z.r_cl Z.r_sp Z.r_tk Z.r_mo), Z.r_it, true, rfl, ?_⟩
      refine iteT ?_
      refine ⟨_, rfl, x, C, dx, _, _, rfl, hx, R.cl, R.nR, rec_rows _ _ _, _, rfl, _, _, A6.rows.mean, (R5.same s6).mean, ?_⟩
      rw [decide_eq_true rfl]
      exact q H6
    · intro rs hrs u1 u2 u3 l dd l2 H3 hring s3 hdd
      rw [hW]
      exact ⟨L, ls, v2, v3, rfl, s3 _ _ hL2, hK, .inr (.inr ⟨rfl, rs, l, dd, l2, rfl, hrs, u1, u2, u3, hring, hdd⟩)⟩
    · intro σ' e c od H1 H' hw he xt
      rw [hW] at hw
      obtain ⟨L, ls, v2, v3, rfl, hL1, hK, hcase⟩ := hw
      have hlen10 : ls.length ≤ 10 := by have := hK.len; lia
      have hl150 : ∀ l ∈ ls, l.length ≤ 150 := fun l hl => (hK.ln l hl).len
      have s3 := xt.same
      have he := s3 _ _ he
      have hL3 := s3 _ _ hL1
      rcases hcase with ⟨rfl, rfl, hn⟩ | ⟨rfl, rfl, rs, hrs, hb⟩ | ⟨rfl, rs, l, dd, l2, rfl, hrs, u1, u2, u3, hring, hdd⟩
      · refine ⟨⟨NN, rfl, Z.s_NoNote⟩, ?_⟩
        refine ⟨_, rfl, _, rfl, L, ls, rfl, hL3, hlen10, hl150, fun rs hrs => by rw [hn] at hrs; (intros; cases hrs), fun _ H4 s4 => ?_⟩
        refine ⟨_, rfl, rfl, _, rfl, ?_⟩
        refine iteT2 rfl ?_
        refine ⟨_, rfl, e, NN, none, 4, rfl, s4 _ _ he, .inr (.inr ⟨rfl, rfl, rfl⟩), fun H5 s5 => ⟨rfl, ?_⟩⟩
        exact q H5
      · refine ⟨⟨BL, rfl, Z.s_BadLetter⟩, ?_⟩
        have hB := pRows_ok hK.ne hrs
        refine ⟨_, rfl, _, rfl, L, ls, rfl, hL3, hlen10, hl150, fun rs' hrs' a' ps' H4 s4 hR' => ?_, fun hn => by rw [hn] at hrs; cases hrs⟩
        rw [hrs] at hrs'
        cases hrs'
        refine ⟨_, rfl, rfl, _, rfl, ?_⟩
        refine iteNo (decide_eq_false fun z => by cases z) ?_
        refine ⟨_, rfl, a', ps', rs, rfl, hR', hB, fun b H5 s5 hb' => ⟨b, rfl, ?_⟩⟩
        rw [hb'.mpr hb]
        refine iteT ?_
        refine ⟨_, rfl, e, BL, none, 0, rfl, s5 _ _ (s4 _ _ he), .inl ⟨rfl, rfl, rfl⟩, fun H6 s6 => ⟨rfl, ?_⟩⟩
        exact q H6
      · refine ⟨⟨RI, rfl, Z.s_Ring⟩, ?_⟩
        have hB := pRows_ok hK.ne hrs
        have hdd := s3 _ _ hdd
        refine ⟨_, rfl, _, rfl, L, ls, rfl, hL3, hlen10, hl150, fun rs' hrs' a' ps' H4 s4 hR' => ?_, fun hn => by rw [hn] at hrs; cases hrs⟩
        rw [hrs] at hrs'
        cases hrs'
        refine ⟨_, rfl, rfl, _, rfl, ?_⟩
        refine iteNo (decide_eq_false fun z => by cases z) ?_
        refine ⟨_, rfl, a', ps', rs, rfl, hR', hB, fun b H5 s5 hb => ⟨b, rfl, ?_⟩⟩
        have eb : b = false := by
          cases b with
          | false => rfl
          | true =>
            rcases hb.mp rfl with z | z | z
            · exact absurd u1 z
            · exact absurd u2 z
            · exact absurd u3 z
        subst eb
        refine iteF ?_
        refine ⟨_, rfl, a', ps', rs, rfl, hR'.same s5, hB, u1, u3, fun b H6 s6 hb => ⟨b, rfl, ?_⟩⟩
        have eb : b = false := by
          cases b with
          | false => rfl
          | true =>
            obtain ⟨rk, o⟩ := hb.mp rfl
            exact absurd hring (o.noRing u1)
        subst eb
        refine iteT ?_
        have s46 := (s4.trans s5).trans s6
        refine ⟨_, rfl, e, RI, some dd, 1, rfl, s46 _ _ he, .inr (.inl ⟨rfl, rfl, dd, _, rfl, s46 _ _ hdd⟩), fun H7 s7 => ⟨rfl, ?_⟩⟩
        exact q H7
end
theorem all_mk {l : PySem.W.OpenLaw} {w : World} {K : PySem.W.Frag} {h : Heap} {mg : Str → Option Value} {fa C RE BL RI NE NC NN pK : Addr} (X : K.In h) (G : h.Ns mainGlobals mg) (hfa : mg "law" = some (.ref fa))
    {t5 t6 t7 t8 u1 u2 u3 u4 u5 : Tok} {ep5 : Nat}
    {nmR qnR : Str} {NR : Addr} {bsR : List Value} {snR : List Str} {subR : List Value} {abR : Bool} {colR : Option Bool} {ddR : Option Addr} {k0R k1R k2R k3R k5R : Option Value}
    {od1 an1 : Option Addr} {sl1 : Array (Option Value)} {oc1 kV1 dc1 pm1 cd1 ct1 : Value} {f1 : Addr}
    {od2 an2 : Option Addr} {sl2 : Array (Option Value)} {oc2 kV2 dc2 pm2 cd2 ct2 : Value} {f2 : Addr}
    {od3 an3 : Option Addr} {sl3 : Array (Option Value)} {oc3 kV3 dc3 pm3 cd3 ct3 : Value} {f3 : Addr}
    {od4 an4 : Option Addr} {sl4 : Array (Option Value)} {oc4 kV4 dc4 pm4 cd4 ct4 : Value} {f4 : Addr}
    {od5 an5 : Option Addr} {sl5 : Array (Option Value)} {oc5 kV5 dc5 pm5 cd5 ct5 : Value} {f5 : Addr}
    {od6 an6 : Option Addr} {sl6 : Array (Option Value)} {oc6 kV6 dc6 pm6 cd6 ct6 : Value} {f6 : Addr}
    {od7 an7 : Option Addr} {sl7 : Array (Option Value)} {oc7 kV7 dc7 pm7 cd7 ct7 : Value} {f7 : Addr}
    {od8 an8 : Option Addr} {sl8 : Array (Option Value)} {oc8 kV8 dc8 pm8 cd8 ct8 : Value} {f8 : Addr}
    {od9 an9 : Option Addr} {sl9 : Array (Option Value)} {oc9 kV9 dc9 pm9 cd9 ct9 : Value} {f9 : Addr}
    {od10 an10 : Option Addr} {sl10 : Array (Option Value)} {oc10 kV10 dc10 pm10 cd10 ct10 : Value} {f10 : Addr}
    {od11 an11 : Option Addr} {sl11 : Array (Option Value)} {oc11 kV11 dc11 pm11 cd11 ct11 : Value} {f11 : Addr}
    {od12 an12 : Option Addr} {sl12 : Array (Option Value)} {oc12 kV12 dc12 pm12 cd12 ct12 : Value} {f12 : Addr}
    {od13 an13 : Option Addr} {sl13 : Array (Option Value)} {oc13 kV13 dc13 pm13 cd13 ct13 : Value} {f13 : Addr}
    {od14 an14 : Option Addr} {sl14 : Array (Option Value)} {oc14 kV14 dc14 pm14 cd14 ct14 : Value} {f14 : Addr}
    {od15 an15 : Option Addr} {sl15 : Array (Option Value)} {oc15 kV15 dc15 pm15 cd15 ct15 : Value} {f15 : Addr}
    {od16 an16 : Option Addr} {sl16 : Array (Option Value)} {oc16 kV16 dc16 pm16 cd16 ct16 : Value} {f16 : Addr}
    {od17 an17 : Option Addr} {sl17 : Array (Option Value)} {oc17 kV17 dc17 pm17 cd17 ct17 : Value} {f17 : Addr}
    {od18 an18 : Option Addr} {sl18 : Array (Option Value)} {oc18 kV18 dc18 pm18 cd18 ct18 : Value} {f18 : Addr}
    {od19 an19 : Option Addr} {sl19 : Array (Option Value)} {oc19 kV19 dc19 pm19 cd19 ct19 : Value} {f19 : Addr}
    {od20 an20 : Option Addr} {sl20 : Array (Option Value)} {oc20 kV20 dc20 pm20 cd20 ct20 : Value} {f20 : Addr}
    {od21 an21 : Option Addr} {sl21 : Array (Option Value)} {oc21 kV21 dc21 pm21 cd21 ct21 : Value} {f21 : Addr}
    {od22 an22 : Option Addr} {sl22 : Array (Option Value)} {oc22 kV22 dc22 pm22 cd22 ct22 : Value} {f22 : Addr}
    {od23 an23 : Option Addr} {sl23 : Array (Option Value)} {oc23 kV23 dc23 pm23 cd23 ct23 : Value} {f23 : Addr}
    {od24 an24 : Option Addr} {sl24 : Array (Option Value)} {oc24 kV24 dc24 pm24 cd24 ct24 : Value} {f24 : Addr}
    {od25 an25 : Option Addr} {sl25 : Array (Option Value)} {oc25 kV25 dc25 pm25 cd25 ct25 : Value} {f25 : Addr}
    {od26 an26 : Option Addr} {sl26 : Array (Option Value)} {oc26 kV26 dc26 pm26 cd26 ct26 : Value} {f26 : Addr}
    (aC : PySem.W.nsIn K mainGlobals "Record" = some (some (.ref C)))
    (aRE : PySem.W.nsIn K mainGlobals "RecordError" = some (some (.ref RE)))
    (aBL : PySem.W.nsIn K mainGlobals "BadLetter" = some (some (.ref BL)))
    (aRI : PySem.W.nsIn K mainGlobals "Ring" = some (some (.ref RI)))
    (aNE : PySem.W.nsIn K mainGlobals "NoEvent" = some (some (.ref NE)))
    (aNC : PySem.W.nsIn K mainGlobals "NoCut" = some (some (.ref NC)))
    (aNN : PySem.W.nsIn K mainGlobals "NoNote" = some (some (.ref NN)))
    (z_VE : PySem.W.nsIn K mainGlobals "ValueError" = some none)
    (z_abs : PySem.W.nsIn K mainGlobals "abs" = some none)
    (rt1 : PySem.W.instIn K (.ref RE) (.type "tuple") = some false)
    (rt2 : PySem.W.subIn K (.ref RE) (.type "BaseException") = some true)
    (rt3 : PySem.W.isClsIn K RE = true)
    (xBL : PySem.W.excIn K BL [.type "ValueError", .type "Exception", .type "BaseException", .type "object"] "ValueError.__new__" = true)
    (xNE : PySem.W.excIn K NE [.type "ValueError", .type "Exception", .type "BaseException", .type "object"] "ValueError.__new__" = true)
    (xNN : PySem.W.excIn K NN [.type "ValueError", .type "Exception", .type "BaseException", .type "object"] "ValueError.__new__" = true)
    (g1BL : PySem.W.findIn K (.ref BL) "__getattribute__" = some (some (.builtin "BaseException.__getattribute__")))
    (g2BL : PySem.W.findIn K (.ref BL) "__getattr__" = some none)
    (g3BL : PySem.W.findIn K (.ref BL) "__class__" = some (some (.builtin "object.__class__")))
    (g4BL : PySem.W.mroIn K BL (.type "object") = some true)
    (g5BL : PySem.W.mroIn K BL (.type "BaseException") = some true)
    (g6BL : PySem.W.isClsIn K BL = true)
    (sBL : PySem.W.subIn K (.ref BL) (.ref RE) = some true)
    (kBLBL : PySem.W.kitOne K (.ref BL) (.ref BL) = some true)
    (kBLRI : PySem.W.kitOne K (.ref BL) (.ref RI) = some false)
    (kBLNE : PySem.W.kitOne K (.ref BL) (.ref NE) = some false)
    (kBLNC : PySem.W.kitOne K (.ref BL) (.ref NC) = some false)
    (kBLNN : PySem.W.kitOne K (.ref BL) (.ref NN) = some false)
    (kBLRE : PySem.W.kitOne K (.ref BL) (.ref RE) = some true)
    (kBLV : PySem.W.kitOne K (.ref BL) (.type "ValueError") = some true)
    (g1NE : PySem.W.findIn K (.ref NE) "__getattribute__" = some (some (.builtin "BaseException.__getattribute__")))
    (g2NE : PySem.W.findIn K (.ref NE) "__getattr__" = some none)
    (g3NE : PySem.W.findIn K (.ref NE) "__class__" = some (some (.builtin "object.__class__")))
    (g4NE : PySem.W.mroIn K NE (.type "object") = some true)
    (g5NE : PySem.W.mroIn K NE (.type "BaseException") = some true)
    (g6NE : PySem.W.isClsIn K NE = true)
    (sNE : PySem.W.subIn K (.ref NE) (.ref RE) = some true)
    (kNEBL : PySem.W.kitOne K (.ref NE) (.ref BL) = some false)
    (kNERI : PySem.W.kitOne K (.ref NE) (.ref RI) = some false)
    (kNENE : PySem.W.kitOne K (.ref NE) (.ref NE) = some true)
    (kNENC : PySem.W.kitOne K (.ref NE) (.ref NC) = some false)
    (kNENN : PySem.W.kitOne K (.ref NE) (.ref NN) = some false)
    (kNERE : PySem.W.kitOne K (.ref NE) (.ref RE) = some true)
    (kNEV : PySem.W.kitOne K (.ref NE) (.type "ValueError") = some true)
    (g1NN : PySem.W.findIn K (.ref NN) "__getattribute__" = some (some (.builtin "BaseException.__getattribute__")))
    (g2NN : PySem.W.findIn K (.ref NN) "__getattr__" = some none)
    (g3NN : PySem.W.findIn K (.ref NN) "__class__" = some (some (.builtin "object.__class__")))
    (g4NN : PySem.W.mroIn K NN (.type "object") = some true)
    (g5NN : PySem.W.mroIn K NN (.type "BaseException") = some true)
    (g6NN : PySem.W.isClsIn K NN = true)
    (sNN : PySem.W.subIn K (.ref NN) (.ref RE) = some true)
    (kNNBL : PySem.W.kitOne K (.ref NN) (.ref BL) = some false)
    (kNNRI : PySem.W.kitOne K (.ref NN) (.ref RI) = some false)
    (kNNNE : PySem.W.kitOne K (.ref NN) (.ref NE) = some false)
    (kNNNC : PySem.W.kitOne K (.ref NN) (.ref NC) = some false)
    (kNNNN : PySem.W.kitOne K (.ref NN) (.ref NN) = some true)
    (kNNRE : PySem.W.kitOne K (.ref NN) (.ref RE) = some true)
    (kNNV : PySem.W.kitOne K (.ref NN) (.type "ValueError") = some true)
    (g1RI : PySem.W.findIn K (.ref RI) "__getattribute__" = some (some (.builtin "BaseException.__getattribute__")))
    (g2RI : PySem.W.findIn K (.ref RI) "__getattr__" = some none)
    (g3RI : PySem.W.findIn K (.ref RI) "__class__" = some (some (.builtin "object.__class__")))
    (g4RI : PySem.W.mroIn K RI (.type "object") = some true)
    (g5RI : PySem.W.mroIn K RI (.type "BaseException") = some true)
    (g6RI : PySem.W.isClsIn K RI = true)
    (sRI : PySem.W.subIn K (.ref RI) (.ref RE) = some true)
    (kRIBL : PySem.W.kitOne K (.ref RI) (.ref BL) = some false)
    (kRIRI : PySem.W.kitOne K (.ref RI) (.ref RI) = some true)
    (kRINE : PySem.W.kitOne K (.ref RI) (.ref NE) = some false)
    (kRINC : PySem.W.kitOne K (.ref RI) (.ref NC) = some false)
    (kRINN : PySem.W.kitOne K (.ref RI) (.ref NN) = some false)
    (kRIRE : PySem.W.kitOne K (.ref RI) (.ref RE) = some true)
    (kRIV : PySem.W.kitOne K (.ref RI) (.type "ValueError") = some true)
    (r_cl : PySem.W.findIn K (.ref C) "__class__" = some (some (.builtin "object.__class__")))
    (r_sp : PySem.W.specialIn K (.builtin "object.__class__") "__get__" = some (some (.builtin "getset_descriptor.__get__")))
    (r_tk : PySem.W.takesIn K (.builtin "object.__class__") = some true)
    (r_mo : PySem.W.mroIn K C (.type "object") = some true)
    (r_it : PySem.W.kitOne K (.ref C) (.ref C) = some true)
    (hdRI : PySem.W.hasDictIn K RI = true)
    (neRI : PySem.W.findIn K (.ref RI) "events" = some none)
    (lRI : K.lookup RI = some (PySem.excClassObj nmR qnR RI NR bsR (.ref RE :: L2.mroV) true snR subR abR colR ddR k0R k1R k2R k3R k5R "ValueError.__new__"))
    (xRE : PySem.W.excIn K RE [.type "ValueError", .type "Exception", .type "BaseException", .type "object"] "ValueError.__new__" = true)
    (kpRI : PySem.W.keepIn K (.ref RI) = true)
    (saRI : PySem.W.findIn K (.ref RI) "__setattr__" = some (some (.builtin "object.__setattr__")))
    (moRI : PySem.W.subIn K (.ref RI) (.type "object") = some true)
    (mbRI : PySem.W.subIn K (.ref RI) (.type "BaseException") = some true)
    (gaRE : PySem.W.specialIn K (.ref RE) "__getattribute__" = some (some (.builtin "type.__getattribute__")))
    (rdRE : PySem.W.readsIn K RE (.type "type") = true)
    (fcRE : PySem.W.findCls K (.ref RE) (.type "type") "__init__" = some (.val (.builtin "ValueError.__init__")))
    (aKN : PySem.W.nsIn K mainGlobals "KINDS" = some (some (.ref pK)))
    (lKN : K.lookup pK = some ⟨.type "dict", none, .dict (List.toArray [⟨PyData.keyHash w.params "!", .str "!" t5, .str "send" t6⟩, ⟨PyData.keyHash w.params "?", .str "?" t7, .str "take" t8⟩]) ep5, #[]⟩)
    (smK : (pK == sysModules) = false)
    (cF : PySem.W.nsIn K mainGlobals "FIGURES" = some (some (.str "0123456789" u1)))
    (cu2 : PySem.W.nsIn K mainGlobals "MOST_LINES" = some (some (.int 4 u2)))
    (cu3 : PySem.W.nsIn K mainGlobals "MOST_EVENTS" = some (some (.int 6 u3)))
    (cu4 : PySem.W.nsIn K mainGlobals "GREATEST_LETTER" = some (some (.int 99 u4)))
    (cu5 : PySem.W.nsIn K mainGlobals "GREATEST_VALUE" = some (some (.int 1000000000 u5)))
    (a1 : PySem.W.nsIn K mainGlobals "_law_cell_at" = some (some (.ref f1)))
    (l1 : K.lookup f1 = some ⟨oc1, od1, .func (PySem.W.fnOf "_law_cell_at" "_law_cell_at" (defArgs s_law_cell_at) (defBody s_law_cell_at) (defScope s_law_cell_at) .none kV1 dc1 pm1 an1 cd1 ct1), sl1⟩) (c1 : PySem.W.codeIn K cd1 "_law_cell_at" = true) (k1 : PySem.W.keepIn K (.ref f1) = true)
    (a2 : PySem.W.nsIn K mainGlobals "_law_draw" = some (some (.ref f2)))
    (l2 : K.lookup f2 = some ⟨oc2, od2, .func (PySem.W.fnOf "_law_draw" "_law_draw" (defArgs s_law_draw) (defBody s_law_draw) (defScope s_law_draw) .none kV2 dc2 pm2 an2 cd2 ct2), sl2⟩) (c2 : PySem.W.codeIn K cd2 "_law_draw" = true) (k2 : PySem.W.keepIn K (.ref f2) = true)
    (a3 : PySem.W.nsIn K mainGlobals "_law_events" = some (some (.ref f3)))
    (l3 : K.lookup f3 = some ⟨oc3, od3, .func (PySem.W.fnOf "_law_events" "_law_events" (defArgs s_law_events) (defBody s_law_events) (defScope s_law_events) .none kV3 dc3 pm3 an3 cd3 ct3), sl3⟩) (c3 : PySem.W.codeIn K cd3 "_law_events" = true) (k3 : PySem.W.keepIn K (.ref f3) = true)
    (a4 : PySem.W.nsIn K mainGlobals "_law_send" = some (some (.ref f4)))
    (l4 : K.lookup f4 = some ⟨oc4, od4, .func (PySem.W.fnOf "_law_send" "_law_send" (defArgs s_law_send) (defBody s_law_send) (defScope s_law_send) .none kV4 dc4 pm4 an4 cd4 ct4), sl4⟩) (c4 : PySem.W.codeIn K cd4 "_law_send" = true) (k4 : PySem.W.keepIn K (.ref f4) = true)
    (a5 : PySem.W.nsIn K mainGlobals "_law_alone" = some (some (.ref f5)))
    (l5 : K.lookup f5 = some ⟨oc5, od5, .func (PySem.W.fnOf "_law_alone" "_law_alone" (defArgs s_law_alone) (defBody s_law_alone) (defScope s_law_alone) .none kV5 dc5 pm5 an5 cd5 ct5), sl5⟩) (c5 : PySem.W.codeIn K cd5 "_law_alone" = true) (k5 : PySem.W.keepIn K (.ref f5) = true)
    (a6 : PySem.W.nsIn K mainGlobals "_law_word" = some (some (.ref f6)))
    (l6 : K.lookup f6 = some ⟨oc6, od6, .func (PySem.W.fnOf "_law_word" "_law_word" (defArgs s_law_word) (defBody s_law_word) (defScope s_law_word) .none kV6 dc6 pm6 an6 cd6 ct6), sl6⟩) (c6 : PySem.W.codeIn K cd6 "_law_word" = true) (k6 : PySem.W.keepIn K (.ref f6) = true)
    (a7 : PySem.W.nsIn K mainGlobals "_law_number" = some (some (.ref f7)))
    (l7 : K.lookup f7 = some ⟨oc7, od7, .func (PySem.W.fnOf "_law_number" "_law_number" (defArgs s_law_number) (defBody s_law_number) (defScope s_law_number) .none kV7 dc7 pm7 an7 cd7 ct7), sl7⟩) (c7 : PySem.W.codeIn K cd7 "_law_number" = true) (k7 : PySem.W.keepIn K (.ref f7) = true)
    (a8 : PySem.W.nsIn K mainGlobals "_law_event" = some (some (.ref f8)))
    (l8 : K.lookup f8 = some ⟨oc8, od8, .func (PySem.W.fnOf "_law_event" "_law_event" (defArgs s_law_event) (defBody s_law_event) (defScope s_law_event) .none kV8 dc8 pm8 an8 cd8 ct8), sl8⟩) (c8 : PySem.W.codeIn K cd8 "_law_event" = true) (k8 : PySem.W.keepIn K (.ref f8) = true)
    (a9 : PySem.W.nsIn K mainGlobals "_law_rows" = some (some (.ref f9)))
    (l9 : K.lookup f9 = some ⟨oc9, od9, .func (PySem.W.fnOf "_law_rows" "_law_rows" (defArgs s_law_rows) (defBody s_law_rows) (defScope s_law_rows) .none kV9 dc9 pm9 an9 cd9 ct9), sl9⟩) (c9 : PySem.W.codeIn K cd9 "_law_rows" = true) (k9 : PySem.W.keepIn K (.ref f9) = true)
    (a10 : PySem.W.nsIn K mainGlobals "_law_twice" = some (some (.ref f10)))
    (l10 : K.lookup f10 = some ⟨oc10, od10, .func (PySem.W.fnOf "_law_twice" "_law_twice" (defArgs s_law_twice) (defBody s_law_twice) (defScope s_law_twice) .none kV10 dc10 pm10 an10 cd10 ct10), sl10⟩) (c10 : PySem.W.codeIn K cd10 "_law_twice" = true) (k10 : PySem.W.keepIn K (.ref f10) = true)
    (a11 : PySem.W.nsIn K mainGlobals "_law_ends" = some (some (.ref f11)))
    (l11 : K.lookup f11 = some ⟨oc11, od11, .func (PySem.W.fnOf "_law_ends" "_law_ends" (defArgs s_law_ends) (defBody s_law_ends) (defScope s_law_ends) .none kV11 dc11 pm11 an11 cd11 ct11), sl11⟩) (c11 : PySem.W.codeIn K cd11 "_law_ends" = true) (k11 : PySem.W.keepIn K (.ref f11) = true)
    (a12 : PySem.W.nsIn K mainGlobals "letter_places" = some (some (.ref f12)))
    (l12 : K.lookup f12 = some ⟨oc12, od12, .func (PySem.W.fnOf "letter_places" "letter_places" (defArgs s_letter_places) (defBody s_letter_places) (defScope s_letter_places) .none kV12 dc12 pm12 an12 cd12 ct12), sl12⟩) (c12 : PySem.W.codeIn K cd12 "letter_places" = true) (k12 : PySem.W.keepIn K (.ref f12) = true)
    (a13 : PySem.W.nsIn K mainGlobals "check_sent" = some (some (.ref f13)))
    (l13 : K.lookup f13 = some ⟨oc13, od13, .func (PySem.W.fnOf "check_sent" "check_sent" (defArgs s_check_sent) (defBody s_check_sent) (defScope s_check_sent) .none kV13 dc13 pm13 an13 cd13 ct13), sl13⟩) (c13 : PySem.W.codeIn K cd13 "check_sent" = true) (k13 : PySem.W.keepIn K (.ref f13) = true)
    (a14 : PySem.W.nsIn K mainGlobals "can_be_done" = some (some (.ref f14)))
    (l14 : K.lookup f14 = some ⟨oc14, od14, .func (PySem.W.fnOf "can_be_done" "can_be_done" (defArgs s_can_be_done) (defBody s_can_be_done) (defScope s_can_be_done) .none kV14 dc14 pm14 an14 cd14 ct14), sl14⟩) (c14 : PySem.W.codeIn K cd14 "can_be_done" = true) (k14 : PySem.W.keepIn K (.ref f14) = true)
    (a15 : PySem.W.nsIn K mainGlobals "counts_done" = some (some (.ref f15)))
    (l15 : K.lookup f15 = some ⟨oc15, od15, .func (PySem.W.fnOf "counts_done" "counts_done" (defArgs s_counts_done) (defBody s_counts_done) (defScope s_counts_done) .none kV15 dc15 pm15 an15 cd15 ct15), sl15⟩) (c15 : PySem.W.codeIn K cd15 "counts_done" = true) (k15 : PySem.W.keepIn K (.ref f15) = true)
    (a16 : PySem.W.nsIn K mainGlobals "undone_ahead" = some (some (.ref f16)))
    (l16 : K.lookup f16 = some ⟨oc16, od16, .func (PySem.W.fnOf "undone_ahead" "undone_ahead" (defArgs s_undone_ahead) (defBody s_undone_ahead) (defScope s_undone_ahead) .none kV16 dc16 pm16 an16 cd16 ct16), sl16⟩) (c16 : PySem.W.codeIn K cd16 "undone_ahead" = true) (k16 : PySem.W.keepIn K (.ref f16) = true)
    (a17 : PySem.W.nsIn K mainGlobals "ring_behind" = some (some (.ref f17)))
    (l17 : K.lookup f17 = some ⟨oc17, od17, .func (PySem.W.fnOf "ring_behind" "ring_behind" (defArgs s_ring_behind) (defBody s_ring_behind) (defScope s_ring_behind) .none kV17 dc17 pm17 an17 cd17 ct17), sl17⟩) (c17 : PySem.W.codeIn K cd17 "ring_behind" = true) (k17 : PySem.W.keepIn K (.ref f17) = true)
    (a18 : PySem.W.nsIn K mainGlobals "find_ring" = some (some (.ref f18)))
    (l18 : K.lookup f18 = some ⟨oc18, od18, .func (PySem.W.fnOf "find_ring" "find_ring" (defArgs s_find_ring) (defBody s_find_ring) (defScope s_find_ring) .none kV18 dc18 pm18 an18 cd18 ct18), sl18⟩) (c18 : PySem.W.codeIn K cd18 "find_ring" = true) (k18 : PySem.W.keepIn K (.ref f18) = true)
    (a19 : PySem.W.findIn K (.ref RI) "__init__" = some (some (.ref f19))) (i19 : PySem.W.isFn K (.ref f19) = true)
    (l19 : K.lookup f19 = some ⟨oc19, od19, .func (PySem.W.fnOf "__init__" "Ring.__init__" (defArgs s_Ring_init) (defBody s_Ring_init) (defScope s_Ring_init) .none kV19 dc19 pm19 an19 cd19 ct19), sl19⟩) (c19 : PySem.W.codeIn K cd19 "Ring.__init__" = true) (k19 : PySem.W.keepIn K (.ref f19) = true)
    (a20 : PySem.W.findIn K (.ref C) "__init__" = some (some (.ref f20))) (i20 : PySem.W.isFn K (.ref f20) = true)
    (l20 : K.lookup f20 = some ⟨oc20, od20, .func (PySem.W.fnOf "__init__" "Record.__init__" (defArgs s_Record_init) (defBody s_Record_init) (defScope s_Record_init) .none kV20 dc20 pm20 an20 cd20 ct20), sl20⟩) (c20 : PySem.W.codeIn K cd20 "Record.__init__" = true) (k20 : PySem.W.keepIn K (.ref f20) = true)
    (a21 : PySem.W.nsIn K mainGlobals "read_number" = some (some (.ref f21)))
    (l21 : K.lookup f21 = some ⟨oc21, od21, .func (PySem.W.fnOf "read_number" "read_number" (defArgs s_read_number) (defBody s_read_number) (defScope s_read_number) .none kV21 dc21 pm21 an21 cd21 ct21), sl21⟩) (c21 : PySem.W.codeIn K cd21 "read_number" = true) (k21 : PySem.W.keepIn K (.ref f21) = true)
    (a22 : PySem.W.nsIn K mainGlobals "read_value" = some (some (.ref f22)))
    (l22 : K.lookup f22 = some ⟨oc22, od22, .func (PySem.W.fnOf "read_value" "read_value" (defArgs s_read_value) (defBody s_read_value) (defScope s_read_value) .none kV22 dc22 pm22 an22 cd22 ct22), sl22⟩) (c22 : PySem.W.codeIn K cd22 "read_value" = true) (k22 : PySem.W.keepIn K (.ref f22) = true)
    (a23 : PySem.W.nsIn K mainGlobals "read_event" = some (some (.ref f23)))
    (l23 : K.lookup f23 = some ⟨oc23, od23, .func (PySem.W.fnOf "read_event" "read_event" (defArgs s_read_event) (defBody s_read_event) (defScope s_read_event) .none kV23 dc23 pm23 an23 cd23 ct23), sl23⟩) (c23 : PySem.W.codeIn K cd23 "read_event" = true) (k23 : PySem.W.keepIn K (.ref f23) = true)
    (a24 : PySem.W.nsIn K mainGlobals "read_row" = some (some (.ref f24)))
    (l24 : K.lookup f24 = some ⟨oc24, od24, .func (PySem.W.fnOf "read_row" "read_row" (defArgs s_read_row) (defBody s_read_row) (defScope s_read_row) .none kV24 dc24 pm24 an24 cd24 ct24), sl24⟩) (c24 : PySem.W.codeIn K cd24 "read_row" = true) (k24 : PySem.W.keepIn K (.ref f24) = true)
    (a25 : PySem.W.nsIn K mainGlobals "read" = some (some (.ref f25)))
    (l25 : K.lookup f25 = some ⟨oc25, od25, .func (PySem.W.fnOf "read" "read" (defArgs s_read) (defBody s_read) (defScope s_read) .none kV25 dc25 pm25 an25 cd25 ct25), sl25⟩) (c25 : PySem.W.codeIn K cd25 "read" = true) (k25 : PySem.W.keepIn K (.ref f25) = true)
    (a26 : PySem.W.nsIn K mainGlobals "law" = some (some (.ref f26)))
    (l26 : K.lookup f26 = some ⟨oc26, od26, .func (PySem.W.fnOf "law" "law" (defArgs s_law) (defBody s_law) (defScope s_law) .none kV26 dc26 pm26 an26 cd26 ct26), sl26⟩) (c26 : PySem.W.codeIn K cd26 "law" = true) (k26 : PySem.W.keepIn K (.ref f26) = true)
    (pg : PySem.W.plainGet K C Str.empty = true) (hd : PySem.W.hasDictIn K C = true) (po : PySem.W.plainOver K C = true) (sa : PySem.W.findIn K (.ref C) "__setattr__" = some (some (.builtin "object.__setattr__"))) (mk : PySem.W.makesIn K C = true) (kc : PySem.W.keepIn K (.ref C) = true)
    (n_rows : PySem.W.findIn K (.ref C) "rows" = some none)
    (n_sends : PySem.W.findIn K (.ref C) "sends" = some none)
    (n_takes : PySem.W.findIn K (.ref C) "takes" = some none)
    (z_len : PySem.W.nsIn K mainGlobals "len" = some none)
    (z_range : PySem.W.nsIn K mainGlobals "range" = some none)
    (z_enumerate : PySem.W.nsIn K mainGlobals "enumerate" = some none)
    (z_list : PySem.W.nsIn K mainGlobals "list" = some none)
    (z_tuple : PySem.W.nsIn K mainGlobals "tuple" = some none)
    (z_isinstance : PySem.W.nsIn K mainGlobals "isinstance" = some none)
    (z_int : PySem.W.nsIn K mainGlobals "int" = some none)
    (z_bool : PySem.W.nsIn K mainGlobals "bool" = some none)
    (z_str : PySem.W.nsIn K mainGlobals "str" = some none)
    (z_min : PySem.W.nsIn K mainGlobals "min" = some none)
    (z_max : PySem.W.nsIn K mainGlobals "max" = some none)
    (z_sum : PySem.W.nsIn K mainGlobals "sum" = some none)
    (z_sorted : PySem.W.nsIn K mainGlobals "sorted" = some none)
    (z_reversed : PySem.W.nsIn K mainGlobals "reversed" = some none)
    (z_zip : PySem.W.nsIn K mainGlobals "zip" = some none)
    (z_any : PySem.W.nsIn K mainGlobals "any" = some none)
    (z_all : PySem.W.nsIn K mainGlobals "all" = some none) :
    ∃ fd : FuncData, (∀ (s : Shared) (v : Value), BindsTo s fd ⟨[v], []⟩ [("script", v)]) ∧ ∀ base : Heap, K.In base → base.Ns mainGlobals mg → FnOk l.prog w K mg base CX0 7 fa fd ["script"] (sp_law K) := by
  have e := hfa.symm.trans (PySem.W.mg_of X G a26)
  cases e
  have B : Bl mg := fun x hx => by
    rcases List.mem_cons.mp hx with rfl | hx
    · exact PySem.W.mg_none_of X G z_len
    rcases List.mem_cons.mp hx with rfl | hx
    · exact PySem.W.mg_none_of X G z_range
    rcases List.mem_cons.mp hx with rfl | hx
    · exact PySem.W.mg_none_of X G z_enumerate
    rcases List.mem_cons.mp hx with rfl | hx
    · exact PySem.W.mg_none_of X G z_list
    rcases List.mem_cons.mp hx with rfl | hx
    · exact PySem.W.mg_none_of X G z_tuple
    rcases List.mem_cons.mp hx with rfl | hx
    · exact PySem.W.mg_none_of X G z_isinstance
    rcases List.mem_cons.mp hx with rfl | hx
    · exact PySem.W.mg_none_of X G z_int
    rcases List.mem_cons.mp hx with rfl | hx
    · exact PySem.W.mg_none_of X G z_bool
    rcases List.mem_cons.mp hx with rfl | hx
    · exact PySem.W.mg_none_of X G z_str
    rcases List.mem_cons.mp hx with rfl | hx
    · exact PySem.W.mg_none_of X G z_min
    rcases List.mem_cons.mp hx with rfl | hx
    · exact PySem.W.mg_none_of X G z_max
    rcases List.mem_cons.mp hx with rfl | hx
    · exact PySem.W.mg_none_of X G z_sum
    rcases List.mem_cons.mp hx with rfl | hx
    · exact PySem.W.mg_none_of X G z_sorted
    rcases List.mem_cons.mp hx with rfl | hx
    · exact PySem.W.mg_none_of X G z_reversed
    rcases List.mem_cons.mp hx with rfl | hx
    · exact PySem.W.mg_none_of X G z_zip
    rcases List.mem_cons.mp hx with rfl | hx
    · exact PySem.W.mg_none_of X G z_any
    rcases List.mem_cons.mp hx with rfl | hx
    · exact PySem.W.mg_none_of X G z_all
    cases hx
  have R : RecC K C := ⟨⟨pg, hd, po, sa⟩, n_rows, n_sends, n_takes⟩
  have ZC : ExcC K mg C RE BL RI NE NC NN := ⟨PySem.W.mg_of X G aRE, PySem.W.mg_of X G aBL, PySem.W.mg_of X G aRI, PySem.W.mg_of X G aNE, PySem.W.mg_of X G aNC, PySem.W.mg_of X G aNN, PySem.W.mg_of X G aC, PySem.W.mg_none_of X G z_VE, ⟨rt1, rt2, rt3⟩, xBL, xNE, ⟨g1BL, g2BL, g3BL, g4BL, g5BL, g6BL⟩, ⟨g1NE, g2NE, g3NE, g4NE, g5NE, g6NE⟩, sBL, sNE, ⟨kBLBL, kBLRI, kBLNE, kBLNC, kBLNN, kBLRE, kBLV⟩, ⟨kNEBL, kNERI, kNENE, kNENC, kNENN, kNERE, kNEV⟩, r_cl, r_sp, r_tk, r_mo, r_it⟩
  have ZG : ExcG K mg C RE RI := ⟨PySem.W.mg_of X G aRE, PySem.W.mg_of X G aRI, PySem.W.mg_of X G aC, ⟨rt1, rt2, rt3⟩, ⟨g1RI, g2RI, g3RI, g4RI, g5RI, g6RI⟩, sRI, kRIRI, hdRI, neRI, r_cl, r_sp, r_tk, r_mo, r_it⟩
  have Z : ExcU K w mg C RE BL RI NE NC NN pK := ⟨PySem.W.mg_of X G aRE, PySem.W.mg_of X G aBL, PySem.W.mg_of X G aRI, PySem.W.mg_of X G aNE, PySem.W.mg_of X G aNC, PySem.W.mg_of X G aNN, PySem.W.mg_of X G aC, PySem.W.mg_none_of X G z_VE, PySem.W.mg_none_of X G z_abs, ⟨rt1, rt2, rt3⟩, xNN, ⟨g1BL, g2BL, g3BL, g4BL, g5BL, g6BL⟩, ⟨g1RI, g2RI, g3RI, g4RI, g5RI, g6RI⟩, ⟨g1NN, g2NN, g3NN, g4NN, g5NN, g6NN⟩, sBL, sRI, sNN, ⟨kBLBL, kBLRI, kBLNE, kBLNC, kBLNN, kBLRE, kBLV⟩, ⟨kRIBL, kRIRI, kRINE, kRINC, kRINN, kRIRE, kRIV⟩, ⟨kNNBL, kNNRI, kNNNE, kNNNC, kNNNN, kNNRE, kNNV⟩, PySem.W.mg_of X G aKN, ⟨by decide +kernel, smK, t5, t6, t7, t8, ep5, lKN⟩, ⟨u1, PySem.W.mg_of X G cF⟩, ⟨u2, PySem.W.mg_of X G cu2⟩, ⟨u3, PySem.W.mg_of X G cu3⟩, ⟨u4, PySem.W.mg_of X G cu4⟩, ⟨u5, PySem.W.mg_of X G cu5⟩, r_cl, r_sp, r_tk, r_mo, r_it⟩
  have F1 := fun_mk (st := s_law_cell_at) l1 c1 k1
  have b1 := F1.binds (ps := ["script", "k"]) fun _ _ _ _ _ _ us hl => by obtain ⟨_, _, rfl⟩ := len_2 hl; rfl
  have F2 := fun_mk (st := s_law_draw) l2 c2 k2
  have b2 := F2.binds (ps := ["script", "k"]) fun _ _ _ _ _ _ us hl => by obtain ⟨_, _, rfl⟩ := len_2 hl; rfl
  have F3 := fun_mk (st := s_law_events) l3 c3 k3
  have b3 := F3.binds (ps := ["rows"]) fun _ _ _ _ _ _ us hl => by obtain ⟨_, rfl⟩ := len_1 hl; rfl
  have F4 := fun_mk (st := s_law_send) l4 c4 k4
  have b4 := F4.binds (ps := ["rows", "letter"]) fun _ _ _ _ _ _ us hl => by obtain ⟨_, _, rfl⟩ := len_2 hl; rfl
  have F5 := fun_mk (st := s_law_alone) l5 c5 k5
  have b5 := F5.binds (ps := ["e"]) fun _ _ _ _ _ _ us hl => by obtain ⟨_, rfl⟩ := len_1 hl; rfl
  have F6 := fun_mk (st := s_law_word) l6 c6 k6
  have b6 := F6.binds (ps := ["cell"]) fun _ _ _ _ _ _ us hl => by obtain ⟨_, rfl⟩ := len_1 hl; rfl
  have F7 := fun_mk (st := s_law_number) l7 c7 k7
  have b7 := F7.binds (ps := ["word", "most"]) fun _ _ _ _ _ _ us hl => by obtain ⟨_, _, rfl⟩ := len_2 hl; rfl
  have F8 := fun_mk (st := s_law_event) l8 c8 k8
  have b8 := F8.binds (ps := ["word"]) fun _ _ _ _ _ _ us hl => by obtain ⟨_, rfl⟩ := len_1 hl; rfl
  have F9 := fun_mk (st := s_law_rows) l9 c9 k9
  have b9 := F9.binds (ps := ["lines"]) fun _ _ _ _ _ _ us hl => by obtain ⟨_, rfl⟩ := len_1 hl; rfl
  have F10 := fun_mk (st := s_law_twice) l10 c10 k10
  have b10 := F10.binds (ps := ["rows"]) fun _ _ _ _ _ _ us hl => by obtain ⟨_, rfl⟩ := len_1 hl; rfl
  have F11 := fun_mk (st := s_law_ends) l11 c11 k11
  have b11 := F11.binds (ps := ["rows"]) fun _ _ _ _ _ _ us hl => by obtain ⟨_, rfl⟩ := len_1 hl; rfl
  have F12 := fun_mk (st := s_letter_places) l12 c12 k12
  have b12 := F12.binds (ps := ["rows", "kind"]) fun _ _ _ _ _ _ us hl => by obtain ⟨_, _, rfl⟩ := len_2 hl; rfl
  have F13 := fun_mk (st := s_check_sent) l13 c13 k13
  have b13 := F13.binds (ps := ["sends", "takes"]) fun _ _ _ _ _ _ us hl => by obtain ⟨_, _, rfl⟩ := len_2 hl; rfl
  have F14 := fun_mk (st := s_can_be_done) l14 c14 k14
  have b14 := F14.binds (ps := ["event", "sends", "counts"]) fun _ _ _ _ _ _ us hl => by obtain ⟨_, _, _, rfl⟩ := len_3 hl; rfl
  have F15 := fun_mk (st := s_counts_done) l15 c15 k15
  have b15 := F15.binds (ps := ["rows", "sends"]) fun _ _ _ _ _ _ us hl => by obtain ⟨_, _, rfl⟩ := len_2 hl; rfl
  have F16 := fun_mk (st := s_undone_ahead) l16 c16 k16
  have b16 := F16.binds (ps := ["rows", "sends", "counts", "one"]) fun _ _ _ _ _ _ us hl => by obtain ⟨_, _, _, _, rfl⟩ := len_4 hl; rfl
  have F17 := fun_mk (st := s_ring_behind) l17 c17 k17
  have b17 := F17.binds (ps := ["rows", "sends", "counts", "start"]) fun _ _ _ _ _ _ us hl => by obtain ⟨_, _, _, _, rfl⟩ := len_4 hl; rfl
  have F18 := fun_mk (st := s_find_ring) l18 c18 k18
  have b18 := F18.binds (ps := ["rows", "sends"]) fun _ _ _ _ _ _ us hl => by obtain ⟨_, _, rfl⟩ := len_2 hl; rfl
  have F19 := fun_mk (st := s_Ring_init) l19 c19 k19
  have b19 := F19.binds (ps := ["self", "events"]) fun _ _ _ _ _ _ us hl => by obtain ⟨_, _, rfl⟩ := len_2 hl; rfl
  have F20 := fun_mk (st := s_Record_init) l20 c20 k20
  have b20 := F20.binds (ps := ["self", "rows"]) fun _ _ _ _ _ _ us hl => by obtain ⟨_, _, rfl⟩ := len_2 hl; rfl
  have F21 := fun_mk (st := s_read_number) l21 c21 k21
  have b21 := F21.binds (ps := ["text", "greatest"]) fun _ _ _ _ _ _ us hl => by obtain ⟨_, _, rfl⟩ := len_2 hl; rfl
  have F22 := fun_mk (st := s_read_value) l22 c22 k22
  have b22 := F22.binds (ps := ["text"]) fun _ _ _ _ _ _ us hl => by obtain ⟨_, rfl⟩ := len_1 hl; rfl
  have F23 := fun_mk (st := s_read_event) l23 c23 k23
  have b23 := F23.binds (ps := ["word"]) fun _ _ _ _ _ _ us hl => by obtain ⟨_, rfl⟩ := len_1 hl; rfl
  have F24 := fun_mk (st := s_read_row) l24 c24 k24
  have b24 := F24.binds (ps := ["line"]) fun _ _ _ _ _ _ us hl => by obtain ⟨_, rfl⟩ := len_1 hl; rfl
  have F25 := fun_mk (st := s_read) l25 c25 k25
  have b25 := F25.binds (ps := ["note"]) fun _ _ _ _ _ _ us hl => by obtain ⟨_, rfl⟩ := len_1 hl; rfl
  have F26 := fun_mk (st := s_law) l26 c26 k26
  have b26 := F26.binds (ps := ["script"]) fun _ _ _ _ _ _ us hl => by obtain ⟨_, rfl⟩ := len_1 hl; rfl
  refine ⟨PySem.W.fnOf "law" "law" (defArgs s_law) (defBody s_law) (defScope s_law) .none kV26 dc26 pm26 an26 cd26 ct26, fun s v => .of_eq rfl, fun base _ _ => ?_⟩
  have D_law_cell_at : Df l.prog w K mg base 1 "_law_cell_at" ["script", "k"] (sp_cell K) := ⟨⟨f1, _, PySem.W.mg_of X G a1, k1, b1, ok_cell F1 B ⟩⟩
  have D_law_draw : Df l.prog w K mg base 2 "_law_draw" ["script", "k"] (sp_draw K) := ⟨⟨f2, _, PySem.W.mg_of X G a2, k2, b2, ok_draw F2 B D_law_cell_at⟩⟩
  have D_law_events : Df l.prog w K mg base 1 "_law_events" ["rows"] sp_events := ⟨⟨f3, _, PySem.W.mg_of X G a3, k3, b3, ok_events F3 B ⟩⟩
  have D_law_send : Df l.prog w K mg base 2 "_law_send" ["rows", "letter"] sp_send := ⟨⟨f4, _, PySem.W.mg_of X G a4, k4, b4, ok_send F4 B D_law_events⟩⟩
  have D_law_alone : Df l.prog w K mg base 1 "_law_alone" ["e"] (sp_alone3 BL RI NN) := ⟨⟨f5, _, PySem.W.mg_of X G a5, k5, b5, ok_alone3 F5 B Z⟩⟩
  have D_law_word : Df l.prog w K mg base 1 "_law_word" ["cell"] sp_word := ⟨⟨f6, _, PySem.W.mg_of X G a6, k6, b6, ok_word F6 B ⟩⟩
  have D_law_number : Df l.prog w K mg base 1 "_law_number" ["word", "most"] sp_lnum := ⟨⟨f7, _, PySem.W.mg_of X G a7, k7, b7, ok_lnum F7 B ⟩⟩
  have D_law_event : Df l.prog w K mg base 2 "_law_event" ["word"] sp_lev := ⟨⟨f8, _, PySem.W.mg_of X G a8, k8, b8, ok_lev F8 B Z D_law_number⟩⟩
  have D_law_rows : Df l.prog w K mg base 3 "_law_rows" ["lines"] (sp_lrows K) := ⟨⟨f9, _, PySem.W.mg_of X G a9, k9, b9, ok_lrows F9 B D_law_event⟩⟩
  have D_law_twice : Df l.prog w K mg base 3 "_law_twice" ["rows"] sp_twice := ⟨⟨f10, _, PySem.W.mg_of X G a10, k10, b10, ok_twice F10 B D_law_events D_law_send⟩⟩
  have D_law_ends : Df l.prog w K mg base 3 "_law_ends" ["rows"] sp_ends := ⟨⟨f11, _, PySem.W.mg_of X G a11, k11, b11, ok_ends F11 B D_law_events D_law_send⟩⟩
  have D_letter_places : DfR l.prog w K mg base 1 "letter_places" ["rows", "kind"] (sp_placesR BL) := ⟨⟨f12, _, PySem.W.mg_of X G a12, k12, b12, ok_placesR F12 B ZC⟩⟩
  have D_check_sent : DfR l.prog w K mg base 1 "check_sent" ["sends", "takes"] (sp_checkR BL) := ⟨⟨f13, _, PySem.W.mg_of X G a13, k13, b13, ok_checkR F13 B ZC⟩⟩
  have D_can_be_done : Df l.prog w K mg base 1 "can_be_done" ["event", "sends", "counts"] sp_can := ⟨⟨f14, _, PySem.W.mg_of X G a14, k14, b14, ok_can F14 B ⟩⟩
  have D_can_be_doneS : Df l.prog w K mg base 1 "can_be_done" ["event", "sends", "counts"] (sp_canS K) := ⟨⟨f14, _, PySem.W.mg_of X G a14, k14, b14, ok_canS F14 B⟩⟩
  have D_counts_done : Df l.prog w K mg base 2 "counts_done" ["rows", "sends"] sp_done := ⟨⟨f15, _, PySem.W.mg_of X G a15, k15, b15, ok_done F15 B D_can_be_done⟩⟩
  have D_undone_ahead : Df l.prog w K mg base 1 "undone_ahead" ["rows", "sends", "counts", "one"] sp_undone := ⟨⟨f16, _, PySem.W.mg_of X G a16, k16, b16, ok_undone F16 B ⟩⟩
  have D_ring_behind : Df l.prog w K mg base 2 "ring_behind" ["rows", "sends", "counts", "start"] sp_rback := ⟨⟨f17, _, PySem.W.mg_of X G a17, k17, b17, ok_rback F17 B D_undone_ahead⟩⟩
  have D_find_ring : Df l.prog w K mg base 3 "find_ring" ["rows", "sends"] sp_ringR := ⟨⟨f18, _, PySem.W.mg_of X G a18, k18, b18, ok_ringR F18 B D_counts_done D_ring_behind⟩⟩
  have S : RingC K RE RI f19 := ⟨⟨gaRE, rdRE, fcRE⟩, ⟨⟨_, _, _, _, _, _, _, _, _, _, _, _, _, _, lRI⟩, xRE, a19, i19, kpRI, saRI, moRI, mbRI⟩, neRI⟩
  have RIF : FnOk l.prog w K mg base CX0 1 f19 _ ["self", "events"] (sp_ring RI) := ok_ring F19 B ZG S
  have RIB := b19
  have C_Record : CfR l.prog w K mg base 4 C "Record" ["self", "rows"] (sp_initU C BL RI) := ⟨⟨f20, _, PySem.W.mg_of X G aC, ⟨mk, a20, i20, kc⟩, b20, ok_initU F20 B R Z D_letter_places D_check_sent D_find_ring S RIF RIB⟩⟩
  have D_read_number : DfR l.prog w K mg base 1 "read_number" ["text", "greatest"] (sp_rnumR NN) := ⟨⟨f21, _, PySem.W.mg_of X G a21, k21, b21, ok_rnumR F21 B Z⟩⟩
  have D_read_value : DfR l.prog w K mg base 2 "read_value" ["text"] (sp_rvalR NN) := ⟨⟨f22, _, PySem.W.mg_of X G a22, k22, b22, ok_rvalR F22 B Z D_read_number⟩⟩
  have D_read_event : DfR l.prog w K mg base 3 "read_event" ["word"] (sp_revR NN) := ⟨⟨f23, _, PySem.W.mg_of X G a23, k23, b23, ok_revR F23 B Z D_read_number D_read_value⟩⟩
  have D_read_row : DfR l.prog w K mg base 4 "read_row" ["line"] (sp_rrowR NN) := ⟨⟨f24, _, PySem.W.mg_of X G a24, k24, b24, ok_rrowR F24 B Z D_read_event⟩⟩
  have D_read : DfR l.prog w K mg base 6 "read" ["note"] (sp_readR C BL RI NN) := ⟨⟨f25, _, PySem.W.mg_of X G a25, k25, b25, ok_readR F25 B Z D_read_row C_Record⟩⟩
  exact ok_law F26 B R Z D_law_draw D_law_word D_read D_law_rows D_law_alone D_law_twice D_law_ends
theorem walk {l : PySem.W.OpenLaw} {q : Program} {loose : List Str} {XP : (Str → Option Value) → Heap → Prop} {YP : World → Heap → Prop} {d : DefRec} {K : Params → PySem.W.Frag} (hn : l.most = some 63) (hdf : d.params.defaults = [])
    (hY : ∀ (w : World) (h : Heap), YP w h → (K w.params).In h)
    (F : ∀ (w : World) (mg : Str → Option Value) (fa : Addr) (h : Heap), (K w.params).In h → h.Ns mainGlobals mg → mg d.name = some (.ref fa) →
      ∃ fd : FuncData, (∀ (s : Shared) (u : Value), BindsTo s fd ⟨[u], []⟩ [("script", u)]) ∧ ∀ base : Heap, (K w.params).In base → base.Ns mainGlobals mg → FnOk l.prog w (K w.params) mg base CX0 7 fa fd ["script"] (sp_law (K w.params))) :
    PySem.W.WalkO q loose XP YP l.row.toRowW d [] (fun f vs => PySem.call f vs) :=
  L2.walk_of (n := 63) (k := 7) (x := "script") (CX := fun _ => CX0) (sp := fun w => sp_law (K w.params)) hn (by decide) hdf ⟨rfl, by decide, by decide, rfl⟩ hY F (fun _ _ a ns hl _ hS => ⟨a, ns, rfl, hS, hl, fun _ => rfl⟩) fun _ _ _ _ _ z => z
end Cw
open PySem PySem.W PyProof.Rows
set_option maxRecDepth 100000 in
set_option maxHeartbeats 0 in
theorem PySem.Challenge.cw_cutway_k18_notes_refused_holds : PySem.Challenge.rw_cutway_k18_notes_refused.Holds := by
  w_on; o_law; k_head; (case hw => w_witness2)
  k_fill
  refine Cw.walk (l := PySem.Challenge.rw_cutway_k18_notes_refused) rfl rfl (fun w h Y => PySem.W.kIn_of Y) ?F
  case F =>
    intro w mg fa h KX G hmg
    refine' Cw.all_mk KX G hmg ?aC ?aRE ?aBL ?aRI ?aNE ?aNC ?aNN ?z_VE ?z_abs ?rt1 ?rt2 ?rt3 ?xBL ?xNE ?xNN ?g1BL ?g2BL ?g3BL ?g4BL ?g5BL ?g6BL ?sBL ?kBLBL ?kBLRI ?kBLNE ?kBLNC ?kBLNN ?kBLRE ?kBLV ?g1NE ?g2NE ?g3NE ?g4NE ?g5NE ?g6NE ?sNE ?kNEBL ?kNERI ?kNENE ?kNENC ?kNENN ?kNERE ?kNEV ?g1NN ?g2NN ?g3NN ?g4NN ?g5NN ?g6NN ?sNN ?kNNBL ?kNNRI ?kNNNE ?kNNNC ?kNNNN ?kNNRE ?kNNV ?g1RI ?g2RI ?g3RI ?g4RI ?g5RI ?g6RI ?sRI ?kRIBL ?kRIRI ?kRINE ?kRINC ?kRINN ?kRIRE ?kRIV ?r_cl ?r_sp ?r_tk ?r_mo ?r_it ?hdRI ?neRI ?lRI ?xRE ?kpRI ?saRI ?moRI ?mbRI ?gaRE ?rdRE ?fcRE ?aKN ?lKN ?smK ?cF ?cu2 ?cu3 ?cu4 ?cu5 ?a1 ?l1 ?c1 ?k1 ?a2 ?l2 ?c2 ?k2 ?a3 ?l3 ?c3 ?k3 ?a4 ?l4 ?c4 ?k4 ?a5 ?l5 ?c5 ?k5 ?a6 ?l6 ?c6 ?k6 ?a7 ?l7 ?c7 ?k7 ?a8 ?l8 ?c8 ?k8 ?a9 ?l9 ?c9 ?k9 ?a10 ?l10 ?c10 ?k10 ?a11 ?l11 ?c11 ?k11 ?a12 ?l12 ?c12 ?k12 ?a13 ?l13 ?c13 ?k13 ?a14 ?l14 ?c14 ?k14 ?a15 ?l15 ?c15 ?k15 ?a16 ?l16 ?c16 ?k16 ?a17 ?l17 ?c17 ?k17 ?a18 ?l18 ?c18 ?k18 ?a19 ?i19 ?l19 ?c19 ?k19 ?a20 ?i20 ?l20 ?c20 ?k20 ?a21 ?l21 ?c21 ?k21 ?a22 ?l22 ?c22 ?k22 ?a23 ?l23 ?c23 ?k23 ?a24 ?l24 ?c24 ?k24 ?a25 ?l25 ?c25 ?k25 ?a26 ?l26 ?c26 ?k26 ?pg ?hd ?po ?sa ?mk ?kc ?n_rows ?n_sends ?n_takes ?z_len ?z_range ?z_enumerate ?z_list ?z_tuple ?z_isinstance ?z_int ?z_bool ?z_str ?z_min ?z_max ?z_sum ?z_sorted ?z_reversed ?z_zip ?z_any ?z_all
    (case aC => k_is)
    (case aRE => k_is)
    (case aBL => k_is)
    (case aRI => k_is)
    (case aNE => k_is)
    (case aNC => k_is)
    (case aNN => k_is)
    (case z_VE => k_is)
    (case z_abs => k_is)
    (case rt1 => k_is)
    (case rt2 => k_is)
    (case rt3 => k_is)
    (case xBL => k_exc)
    (case xNE => k_exc)
    (case xNN => k_exc)
    (case g1BL => k_is)
    (case g2BL => k_is)
    (case g3BL => k_is)
    (case g4BL => k_is)
    (case g5BL => k_is)
    (case g6BL => k_is)
    (case sBL => k_is)
    (case kBLBL => kit_is)
    (case kBLRI => kit_is)
    (case kBLNE => kit_is)
    (case kBLNC => kit_is)
    (case kBLNN => kit_is)
    (case kBLRE => kit_is)
    (case kBLV => kit_is)
    (case g1NE => k_is)
    (case g2NE => k_is)
    (case g3NE => k_is)
    (case g4NE => k_is)
    (case g5NE => k_is)
    (case g6NE => k_is)
    (case sNE => k_is)
    (case kNEBL => kit_is)
    (case kNERI => kit_is)
    (case kNENE => kit_is)
    (case kNENC => kit_is)
    (case kNENN => kit_is)
    (case kNERE => kit_is)
    (case kNEV => kit_is)
    (case g1NN => k_is)
    (case g2NN => k_is)
    (case g3NN => k_is)
    (case g4NN => k_is)
    (case g5NN => k_is)
    (case g6NN => k_is)
    (case sNN => k_is)
    (case kNNBL => kit_is)
    (case kNNRI => kit_is)
    (case kNNNE => kit_is)
    (case kNNNC => kit_is)
    (case kNNNN => kit_is)
    (case kNNRE => kit_is)
    (case kNNV => kit_is)
    (case g1RI => k_is)
    (case g2RI => k_is)
    (case g3RI => k_is)
    (case g4RI => k_is)
    (case g5RI => k_is)
    (case g6RI => k_is)
    (case sRI => k_is)
    (case kRIBL => kit_is)
    (case kRIRI => kit_is)
    (case kRINE => kit_is)
    (case kRINC => kit_is)
    (case kRINN => kit_is)
    (case kRIRE => kit_is)
    (case kRIV => kit_is)
    (case r_cl => k_is)
    (case r_sp => k_is)
    (case r_tk => k_is)
    (case r_mo => k_is)
    (case r_it => kit_is)
    (case hdRI => k_is)
    (case neRI => k_is)
    (case lRI => k_is)
    (case xRE => k_exc)
    (case kpRI => k_is)
    (case saRI => k_is)
    (case moRI => k_is)
    (case mbRI => k_is)
    (case gaRE => k_is)
    (case rdRE => k_is)
    (case fcRE => k_is)
    (case aKN => k_is)
    (case lKN => k_is)
    (case smK => decide +kernel)
    (case cF => k_is)
    (case cu2 => k_is)
    (case cu3 => k_is)
    (case cu4 => k_is)
    (case cu5 => k_is)
    (case a1 => k_is)
    (case l1 => k_is)
    (case c1 => k_is)
    (case k1 => k_is)
    (case a2 => k_is)
    (case l2 => k_is)
    (case c2 => k_is)
    (case k2 => k_is)
    (case a3 => k_is)
    (case l3 => k_is)
    (case c3 => k_is)
    (case k3 => k_is)
    (case a4 => k_is)
    (case l4 => k_is)
    (case c4 => k_is)
    (case k4 => k_is)
    (case a5 => k_is)
    (case l5 => k_is)
    (case c5 => k_is)
    (case k5 => k_is)
    (case a6 => k_is)
    (case l6 => k_is)
    (case c6 => k_is)
    (case k6 => k_is)
    (case a7 => k_is)
    (case l7 => k_is)
    (case c7 => k_is)
    (case k7 => k_is)
    (case a8 => k_is)
    (case l8 => k_is)
    (case c8 => k_is)
    (case k8 => k_is)
    (case a9 => k_is)
    (case l9 => k_is)
    (case c9 => k_is)
    (case k9 => k_is)
    (case a10 => k_is)
    (case l10 => k_is)
    (case c10 => k_is)
    (case k10 => k_is)
    (case a11 => k_is)
    (case l11 => k_is)
    (case c11 => k_is)
    (case k11 => k_is)
    (case a12 => k_is)
    (case l12 => k_is)
    (case c12 => k_is)
    (case k12 => k_is)
    (case a13 => k_is)
    (case l13 => k_is)
    (case c13 => k_is)
    (case k13 => k_is)
    (case a14 => k_is)
    (case l14 => k_is)
    (case c14 => k_is)
    (case k14 => k_is)
    (case a15 => k_is)
    (case l15 => k_is)
    (case c15 => k_is)
    (case k15 => k_is)
    (case a16 => k_is)
    (case l16 => k_is)
    (case c16 => k_is)
    (case k16 => k_is)
    (case a17 => k_is)
    (case l17 => k_is)
    (case c17 => k_is)
    (case k17 => k_is)
    (case a18 => k_is)
    (case l18 => k_is)
    (case c18 => k_is)
    (case k18 => k_is)
    (case a19 => k_is)
    (case i19 => k_is)
    (case l19 => k_is)
    (case c19 => k_is)
    (case k19 => k_is)
    (case a20 => k_is)
    (case i20 => k_is)
    (case l20 => k_is)
    (case c20 => k_is)
    (case k20 => k_is)
    (case a21 => k_is)
    (case l21 => k_is)
    (case c21 => k_is)
    (case k21 => k_is)
    (case a22 => k_is)
    (case l22 => k_is)
    (case c22 => k_is)
    (case k22 => k_is)
    (case a23 => k_is)
    (case l23 => k_is)
    (case c23 => k_is)
    (case k23 => k_is)
    (case a24 => k_is)
    (case l24 => k_is)
    (case c24 => k_is)
    (case k24 => k_is)
    (case a25 => k_is)
    (case l25 => k_is)
    (case c25 => k_is)
    (case k25 => k_is)
    (case a26 => k_is)
    (case l26 => k_is)
    (case c26 => k_is)
    (case k26 => k_is)
    (case pg => k_is)
    (case hd => k_is)
    (case po => k_is)
    (case sa => k_is)
    (case mk => k_is)
    (case kc => k_is)
    (case n_rows => k_is)
    (case n_sends => k_is)
    (case n_takes => k_is)
    (case z_len => k_is)
    (case z_range => k_is)
    (case z_enumerate => k_is)
    (case z_list => k_is)
    (case z_tuple => k_is)
    (case z_isinstance => k_is)
    (case z_int => k_is)
    (case z_bool => k_is)
    (case z_str => k_is)
    (case z_min => k_is)
    (case z_max => k_is)
    (case z_sum => k_is)
    (case z_sorted => k_is)
    (case z_reversed => k_is)
    (case z_zip => k_is)
    (case z_any => k_is)
    (case z_all => k_is)


