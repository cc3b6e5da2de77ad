import PyProof.Rows.All
import Wide.All
import OpenK.AllK
import Wide.FinOn
import Lean
import PyProof.EqAt
import PyProof.EqKinds
import PyProof.TupleCall
import KE.KSortTup
import PyProof.NeKinds
import PyProof.DictRoadsH
import KE.KIntText
import KE.KRevIter
import PyProof.Rows.Range3
import PyProof.StrLawsTight
import PyProof.ZipIter
import KE.LcSums
import KE.KListMore
import KE.KDictList
import KE.KDictLaws
import KE.KMinKey
import PyProof.Rows.SortKeyStr
import PyProof.Rows.SortWalk
import PySem.Challenge.RW_smallword_k77_opening_steps
set_option Elab.async false
set_option linter.all false
set_option maxRecDepth 100000
namespace L2
open PySem PySem.Spec PyProof.Rows
abbrev Key := Sum Int Str
def keyIs : Key → Value → Bool
  | .inl k, v => Value.isInt k v
  | .inr x, v => Value.isStrOf x v
def keyH (w : World) : Key → Int
  | .inl k => hashInt k
  | .inr x => hashStr w x
theorem keyIs_shape : ∀ {k : Key} {v : Value}, keyIs k v = true → (∃ i t, k = Sum.inl i ∧ v = Value.int i t) ∨ (∃ x t, k = Sum.inr x ∧ v = Value.str x t)
  | .inl i, v, h => by
    obtain ⟨t, e⟩ := Value.isInt_shape (k := i) (v := v) h
    exact .inl ⟨i, t, rfl, e⟩
  | .inr x, v, h => by
    obtain ⟨t, e⟩ := Value.isStrOf_shape (x := x) (v := v) h
    exact .inr ⟨x, t, rfl, e⟩
theorem keyIs_int (i : Int) (t : Tok) : keyIs (.inl i) (.int i t) = true := by simp [keyIs, Value.isInt]
theorem keyIs_str (x : Str) (t : Tok) : keyIs (.inr x) (.str x t) = true := by simp [keyIs, Value.isStrOf]
theorem key_ll (a b : Int) : decide ((Sum.inl a : Key) = Sum.inl b) = (a == b) := by
  by_cases e : a = b
  · subst e; simp
  · have h : ¬ (Sum.inl a : Key) = Sum.inl b := fun q => e (Sum.inl.inj q)
    rw [decide_eq_false h]
    exact (beq_eq_false_iff_ne.mpr e).symm
theorem key_rr (a b : Str) : decide ((Sum.inr a : Key) = Sum.inr b) = decide (a = b) := by
  by_cases e : a = b
  · subst e; simp
  · have h : ¬ (Sum.inr a : Key) = Sum.inr b := fun q => e (Sum.inr.inj q)
    rw [decide_eq_false h, decide_eq_false e]
theorem key_lr (a : Int) (b : Str) : decide ((Sum.inl a : Key) = Sum.inr b) = false := decide_eq_false (fun q => nomatch q)
theorem key_rl (a : Str) (b : Int) : decide ((Sum.inr a : Key) = Sum.inl b) = false := decide_eq_false (fun q => nomatch q)

def mixKind (prog : Program) (w : World) : PySem.KeyKind prog w Key where
  is := keyIs
  hash := keyH w
  inj := fun v a b ha hb => by
    rcases keyIs_shape ha with ⟨i, t, rfl, rfl⟩ | ⟨x, t, rfl, rfl⟩
    · rcases keyIs_shape hb with ⟨j, u, rfl, e⟩ | ⟨y, u, rfl, e⟩
      · injection e with e1 _; rw [e1]
      · exact nomatch e
    · rcases keyIs_shape hb with ⟨j, u, rfl, e⟩ | ⟨y, u, rfl, e⟩
      · exact nomatch e
      · injection e with e1 _; rw [e1]
  byValue := fun k v h => by
    rcases keyIs_shape h with ⟨i, t, rfl, rfl⟩ | ⟨x, t, rfl, rfl⟩ <;> rfl
  pyHash := fun hv h => by
    rcases keyIs_shape hv with ⟨i, t, rfl, rfl⟩ | ⟨x, t, rfl, rfl⟩
    · exact wpAny_pyHash_int h
    · exact wpAny_pyHash_str h
  eqBool := fun hu hv h => by
    rcases keyIs_shape hu with ⟨i, t, rfl, rfl⟩ | ⟨x, t, rfl, rfl⟩
    · rcases keyIs_shape hv with ⟨j, u, rfl, rfl⟩ | ⟨y, u, rfl, rfl⟩
      · rw [key_ll] at h; exact wpAny_eqBool_int h
      · rw [key_lr] at h; exact SeqAt.EqAt.int_str i t y u _ _ _ _ h
    · rcases keyIs_shape hv with ⟨j, u, rfl, rfl⟩ | ⟨y, u, rfl, rfl⟩
      · rw [key_rl] at h; exact SeqAt.EqAt.str_int x t j u _ _ _ _ h
      · rw [key_rr] at h; exact wpAny_eqBool_str h
  «strs» := fun k x t v h => by
    rcases keyIs_shape h with ⟨i, u, rfl, e⟩ | ⟨y, u, rfl, e⟩
    · exact nomatch e
    · injection e with e1 _
      subst e1
      cases v <;> rfl

theorem mixKind_int (prog : Program) (w : World) (i : Int) (t : Tok) : (mixKind prog w).is (.inl i) (.int i t) = true := keyIs_int i t
theorem mixKind_str (prog : Program) (w : World) (x : Str) (t : Tok) : (mixKind prog w).is (.inr x) (.str x t) = true := keyIs_str x t
end L2
namespace L2
open PySem PySem.Spec PyProof.Rows
inductive V where
  | non | bl (b : Bool) | int (i : Int) | str (x : Str) | byt (b : Array UInt8) | flt (b : UInt64) | ref (a : Addr) | ty (n : String)
  deriving DecidableEq

def RelV : V → Value → Prop
  | .non, u => u = Value.none
  | .bl b, u => u = Value.bool b
  | .int i, u => ∃ t, u = Value.int i t
  | .str x, u => ∃ t, u = Value.str x t
  | .byt b, u => ∃ t, u = Value.bytes b t
  | .flt b, u => ∃ t, u = Value.float b t
  | .ref a, u => u = Value.ref a
  | .ty n, u => u = Value.type n

abbrev Vals : List V → List Value → Prop := Paired RelV
theorem Vals.length {xs : List V} {us : List Value} (r : Vals xs us) : xs.length = us.length := Paired.length r
theorem Vals.get : ∀ {xs : List V} {us : List Value} {i : Nat} {x : V}, Vals xs us → xs[i]? = some x → ∃ u, us[i]? = some u ∧ RelV x u
  | _, _, _, _, .nil, e => by simp at e
  | _, _, 0, _, .cons r _, e => by simp at e; subst e; exact ⟨_, rfl, r⟩
  | _, _, i + 1, x, .cons _ t, e => by
    obtain ⟨u, h1, h2⟩ := Vals.get (i := i) (x := x) t (by simpa using e)
    exact ⟨u, by simpa using h1, h2⟩
theorem Vals.set {x : V} {u : Value} (r : RelV x u) : ∀ {xs : List V} {us : List Value} (i : Nat), Vals xs us → Vals (xs.set i x) (us.set i u)
  | _, _, _, .nil => .nil
  | _, _, 0, .cons _ t => .cons r t
  | _, _, i + 1, .cons q t => .cons q (Vals.set r i t)
theorem Vals.append : ∀ {xs ys : List V} {us ws : List Value}, Vals xs us → Vals ys ws → Vals (xs ++ ys) (us ++ ws)
  | _, _, _, _, .nil, s => s
  | _, _, _, _, .cons r t, s => .cons r (Vals.append t s)
theorem Vals.take : ∀ {xs : List V} {us : List Value} (n : Nat), Vals xs us → Vals (xs.take n) (us.take n)
  | _, _, 0, _ => .nil
  | _, _, _ + 1, .nil => .nil
  | _, _, n + 1, .cons r t => .cons r (Vals.take n t)
theorem Vals.drop : ∀ {xs : List V} {us : List Value} (n : Nat), Vals xs us → Vals (xs.drop n) (us.drop n)
  | _, _, 0, r => r
  | _, _, _ + 1, .nil => .nil
  | _, _, n + 1, .cons _ t => Vals.drop n t
def RelO : Option V → Option Value → Prop
  | some v, some u => RelV v u
  | none, none => True
  | _, _ => False
def KV {κ : Type} : List (κ × V) → List (κ × Value) → Prop := Paired fun (p : κ × V) (q : κ × Value) => p.1 = q.1 ∧ RelV p.2 q.2

def kV : Key → V
  | .inl i => .int i
  | .inr x => .str x

inductive HO where
  /-- a list -/
  | lst (xs : List V)
  /-- a tuple (never changes) -/
  | tup (xs : List V)
  /-- a dict whose keys are ints and texts; one whose keys are tuples of ints and texts (the empty one is both) -/
  | dK (kvs : List (Key × V)) | dT (kvs : List (List Key × V))
  /-- a set of ints: its members, its size -/
  | set (S : Int → Bool) (n : Nat)
  /-- an instance of the class at C, its dict at dx, its attributes -/
  | ins (C dx : Addr) (fs : List (Str × V))
  /-- the dict of the instance at x -/
  | own (x : Addr)
  /-- the dict of an exception -/
  | xd (fs : List (Str × V))
  /-- a bound method, f of x -/
  | met (f x : Addr)
  /-- a range object lo, lo + 1, .. below hi -/
  | rng (lo hi : Int)
  /-- a thing that is known to the object (the script; a dict while a loop walks it): read, never written while it is so -/
  | frz (o : Obj) (u : HO)
  /-- a code object's table -/
  | tbl (ps : Array Value)
  /-- any other thing, by what is true of its one object (a def of one's own: SetO a S n := HO.ext fun h => ..) -/
  | ext (φ : Heap → Prop)

abbrev Hp := Addr → Option HO
def upd (H : Hp) (a : Addr) (o : HO) : Hp := fun b => if b = a then some o else H b
theorem upd_same {H : Hp} {a : Addr} {o : HO} : upd H a o a = some o := by unfold upd; rw [if_pos rfl]
theorem upd_ne {H : Hp} {a b : Addr} {o : HO} (h : b ≠ a) : upd H a o b = H b := by unfold upd; rw [if_neg h]
theorem ne_of {H : Hp} {a b : Addr} {o u : HO} (h : H a = some o) (h' : H b = some u) (d : o ≠ u) : a ≠ b := by
  intro e; subst e; rw [h] at h'; exact d (Option.some.inj h')
theorem ne_of_none {H : Hp} {a b : Addr} {o : HO} (h : H a = some o) (h' : H b = none) : a ≠ b := by
  intro e; subst e; rw [h] at h'; cases h'

section
variable (P : Program) (w : World)
def ObjOk (H : Hp) (h : Heap) (a : Addr) : HO → Prop
  | .lst xs => xs.length ≤ sizeLine ∧ ∃ (its : List Value) (n : Nat), Vals xs its ∧ h.get? a = some { cls := .type "list", data := .seq its.toArray n }
  | .tup xs => xs.length ≤ sizeLine ∧ ∃ its : List Value, Vals xs its ∧ IsTup h a its.toArray
  | .dK kvs => kvs.length ≤ sizeLine ∧ (a == sysModules) = false ∧ ∃ vs, KV kvs vs ∧ h.DictOf (mixKind P w) a vs
  | .dT kvs => kvs.length ≤ sizeLine ∧ (a == sysModules) = false ∧ ∃ xs : List (List Key × Addr × Value),
      Paired (fun (p : List Key × V) (q : List Key × Addr × Value) => p.1 = q.1 ∧ H q.2.1 = some (.tup (p.1.map kV)) ∧ RelV p.2 q.2.2) kvs xs ∧
      ∃ o es ep, h.get? a = some o ∧ o.ExactDict ∧ o.data = .dict es ep ∧ es.toList = xs.map (entryOfKey (tupleKind (mixKind P w))) ∧ (xs.map (·.1)).Nodup
  | .set S n => h.SetOf (intKind P w) a S n
  | .ins C dx fs => H dx = some (.own a) ∧ fs.length ≤ 1000 ∧ dx ≠ a ∧ h.get? a = some (PySem.W.instObj C dx) ∧
      ∃ mA, h.Ns1 dx mA ∧ (∀ f, RelO (fs.lookup f) (mA f)) ∧ PySem.Within mA (fs.map (·.1))
  | .own _ => ∃ o, h.get? a = some o
  | .xd fs => ∃ mA, h.Ns1 a mA ∧ ∀ f, RelO (fs.lookup f) (mA f)
  | .rng lo hi => ∃ t u v, h.get? a = some { cls := .type "range", data := .fields #[.int lo t, .int hi u, .int 1 v] }
  | .frz o u => h.get? a = some o ∧ ObjOk H h a u
  | .tbl ps => h.get? a = some { cls := .none, data := .fields ps }
  | .met f x => h.get? a = some (PySem.W.methodObj (.ref f) (.ref x))
  | .ext φ => φ h ∧ (∃ o, h.get? a = some o) ∧ ∀ h1 h2 : Heap, φ h1 → (∀ o, h1.get? a = some o → h2.get? a = some o) → φ h2
def HOk (H : Hp) (h : Heap) : Prop := ∀ a o, H a = some o → ObjOk P w H h a o
end
section
variable {P : Program} {w : World} {H H' : Hp} {h h' : Heap} {a : Addr} {o : HO}
theorem ObjOk.lt (x : ObjOk P w H h a o) : a < h.objs.size := by
  cases o with
  | lst xs => obtain ⟨_, _, _, _, e⟩ := x; exact Heap.lt_size e
  | tup xs => obtain ⟨_, _, _, p⟩ := x; exact p.lt
  | dK kvs => obtain ⟨_, _, _, _, o, _, _, e, _⟩ := x; exact Heap.lt_size e
  | dT kvs => obtain ⟨_, _, _, _, o, _, _, e, _⟩ := x; exact Heap.lt_size e
  | set S n => obtain ⟨o, _, _, _, e, _⟩ := x; exact Heap.lt_size e
  | ins C dx fs => obtain ⟨_, _, _, e, _⟩ := x; exact Heap.lt_size e
  | own y => obtain ⟨_, e⟩ := x; exact Heap.lt_size e
  | xd fs => obtain ⟨_, ⟨_, _, _, e, _⟩, _⟩ := x; exact Heap.lt_size e
  | rng lo hi => obtain ⟨_, _, _, e⟩ := x; exact Heap.lt_size e
  | frz ob u => obtain ⟨e, _⟩ := x; exact Heap.lt_size e
  | tbl ps => exact Heap.lt_size (show h.get? a = some _ from x)
  | met f y => exact Heap.lt_size (show h.get? a = some _ from x)
  | ext φ => obtain ⟨_, ⟨_, e⟩, _⟩ := x; exact Heap.lt_size e
theorem Paired.mapP {α β : Type} {F G : α → β → Prop} : ∀ {l₁ : List α} {l₂ : List β}, Paired F l₁ l₂ → (∀ a b, F a b → G a b) → Paired G l₁ l₂
  | _, _, .nil, _ => .nil
  | _, _, .cons r t, f => .cons (f _ _ r) (Paired.mapP t f)
theorem Paired.imp' {α β : Type} {F G : α → β → Prop} (f : ∀ a b, F a b → G a b) {l₁ : List α} {l₂ : List β} (r : Paired F l₁ l₂) : Paired G l₁ l₂ := Paired.mapP r f
theorem ObjOk.stay (x : ObjOk P w H h a o) (k : ∀ b u, (b = a ∨ H b = some (.own a)) → h.get? b = some u → h'.get? b = some u)
    (ho : ∀ b, H b = some (.own a) → H' b = some (.own a)) (ht : ∀ b xs, H b = some (.tup xs) → H' b = some (.tup xs)) : ObjOk P w H' h' a o := by
  induction o with
  | lst xs => obtain ⟨z, its, n, r, e⟩ := x; exact ⟨z, its, n, r, k _ _ (.inl rfl) e⟩
  | tup xs => obtain ⟨z, its, r, ob, e, c⟩ := x; exact ⟨z, its, r, ob, k _ _ (.inl rfl) e, c⟩
  | dK kvs => obtain ⟨z, y, vs, r, ob, es, ep, e, c⟩ := x; exact ⟨z, y, vs, r, ob, es, ep, k _ _ (.inl rfl) e, c⟩
  | dT kvs =>
    obtain ⟨z, y, xs, r, ob, es, ep, e, c⟩ := x
    exact ⟨z, y, xs, Paired.mapP r fun p q z => ⟨z.1, ht _ _ z.2.1, z.2.2⟩, ob, es, ep, k _ _ (.inl rfl) e, c⟩
  | set S n => obtain ⟨ob, es, ep, t, e, c⟩ := x; exact ⟨ob, es, ep, t, k _ _ (.inl rfl) e, c⟩
  | ins C dx fs =>
    obtain ⟨d, z, ne, e, mA, ⟨od, es, ep, e2, c⟩, r⟩ := x
    exact ⟨ho _ d, z, ne, k _ _ (.inl rfl) e, mA, ⟨od, es, ep, k _ _ (.inr d) e2, c⟩, r⟩
  | own y => obtain ⟨ob, e⟩ := x; exact ⟨ob, k _ _ (.inl rfl) e⟩
  | xd fs => obtain ⟨mA, ⟨od, es, ep, e, c⟩, r⟩ := x; exact ⟨mA, ⟨od, es, ep, k _ _ (.inl rfl) e, c⟩, r⟩
  | rng lo hi => obtain ⟨t, u, v, e⟩ := x; exact ⟨t, u, v, k _ _ (.inl rfl) e⟩
  | frz ob u ih => obtain ⟨e, q⟩ := x; exact ⟨k _ _ (.inl rfl) e, ih q⟩
  | tbl ps =>
    have e : h.get? a = some { cls := .none, data := .fields ps } := x
    show h'.get? a = some { cls := .none, data := .fields ps }
    exact k a _ (.inl rfl) e
  | met f y =>
    have e : h.get? a = some (PySem.W.methodObj (.ref f) (.ref y)) := x
    show h'.get? a = some (PySem.W.methodObj (.ref f) (.ref y))
    exact k a _ (.inl rfl) e
  | ext φ => obtain ⟨p, ⟨o, e⟩, st⟩ := x; exact ⟨st _ _ p fun o q => k _ _ (.inl rfl) q, ⟨o, k _ _ (.inl rfl) e⟩, st⟩
theorem HOk.lt (x : HOk P w H h) (e : H a = some o) : a < h.objs.size := (x a o e).lt
theorem HOk.fresh (x : HOk P w H h) (e : h.objs.size ≤ a) : H a = none := by
  cases q : H a with
  | none => rfl
  | some u => exact absurd (Nat.lt_of_lt_of_le (x.lt q) e) (Nat.lt_irrefl _)
theorem HOk.kept (x : HOk P w H h) (k : ∀ b u, h.get? b = some u → h'.get? b = some u) : HOk P w H h' := fun a o e =>
  (x a o e).stay (fun b u _ q => k b u q) (fun _ q => q) fun _ _ q => q
theorem HOk.laid (x : HOk P w H h) (k : ∀ b u, h.get? b = some u → h'.get? b = some u) (hp : h.objs.size ≤ a) (new : ObjOk P w (upd H a o) h' a o) : HOk P w (upd H a o) h' := fun b u e => by
  have hn := x.fresh hp
  by_cases hb : b = a
  · subst hb; rw [upd_same] at e; cases e; exact new
  · rw [upd_ne hb] at e
    exact (x b u e).stay (fun c v _ q => k c v q) (fun c q => by rw [upd_ne (ne_of_none q hn)]; exact q) fun c xs q => by rw [upd_ne (ne_of_none q hn)]; exact q
end
def Rd (H : Hp) (a : Addr) (u : HO) : Prop := H a = some u ∨ ∃ o, H a = some (.frz o u)
theorem Rd.of {H : Hp} {a : Addr} {u : HO} (h : H a = some u) : Rd H a u := .inl h
theorem Rd.ok {P : Program} {w : World} {H : Hp} {h : Heap} {a : Addr} {u : HO} (r : Rd H a u) (x : HOk P w H h) : ObjOk P w H h a u := by
  rcases r with r | ⟨o, r⟩
  · exact x a u r
  · obtain ⟨_, q⟩ := x a _ r
    exact q
def Mut : Option HO → Prop
  | some (.lst _) => True
  | some (.dK _) => True
  | some (.dT _) => True
  | some (.set _ _) => True
  | some (.ins _ _ _) => True
  | some (.ext _) => True
  | _ => False
section
variable {P : Program} {w : World} {H : Hp} {h h' : Heap} {x e : Addr} {o' : HO}
theorem HOk.write (ok : HOk P w H h) (mu : Mut (H x)) (he : e = x ∨ H e = some (.own x)) (k : ∀ b u, b ≠ e → h.get? b = some u → h'.get? b = some u) (heo : ∃ u, h'.get? e = some u)
    (new : ObjOk P w (upd H x o') h' x o') : HOk P w (upd H x o') h' := fun b u q => by
  have nown : ∀ c y, H c = some (.own y) → c ≠ x := fun c y r z => by subst z; rw [r] at mu; exact mu
  have ntup : ∀ c xs, H c = some (.tup xs) → c ≠ x := fun c xs r z => by subst z; rw [r] at mu; exact mu
  by_cases hb : b = x
  · subst hb; rw [upd_same] at q; cases q; exact new
  · rw [upd_ne hb] at q
    by_cases hbe : b = e
    · have q' : H b = some (.own x) := by
        rcases he with z | z
        · exact absurd (hbe.trans z) hb
        · rw [hbe]; exact z
      rw [q] at q'; cases q'
      obtain ⟨v, hv⟩ := heo
      exact ⟨v, by rw [hbe]; exact hv⟩
    · refine (ok b u q).stay (fun c v hc r => k c v ?_ r) (fun c r => by rw [upd_ne (nown c b r)]; exact r) fun c xs r => by rw [upd_ne (ntup c xs r)]; exact r
      rcases hc with rfl | hc
      · exact hbe
      · rintro rfl
        rcases he with z | z
        · exact nown c b hc z
        · rw [hc] at z; cases z; exact hb rfl
end
structure Un (fs ex : List Addr) (H H' : Hp) (h h' : Heap) : Prop where
  keep : ∀ b o, h.get? b = some o → H b = none → b ∉ fs → b ∉ ex → h'.get? b = some o
  slot : ∀ b o, h.get? b = some o → H b = none → b ∈ fs → b ∉ ex → ∃ sl, h'.get? b = some { o with slots := sl }
  free : ∀ b o, h.get? b = some o → H b = none → b ∉ ex → H' b = none
  there : ∀ b o, h.get? b = some o → b ∉ ex → ∃ o', h'.get? b = some o'
  tups : ∀ b xs, H b = some (.tup xs) → H' b = some (.tup xs)
  frzs : ∀ b o u, H b = some (.frz o u) → H' b = some (.frz o u)
  tbls : ∀ b ps, H b = some (.tbl ps) → ∃ more, H' b = some (.tbl (ps ++ more))
section
variable {fs fs' ex ex' : List Addr} {H H1 H2 : Hp} {h h1 h2 h' : Heap} {a x e : Addr} {o : HO}
theorem Un.any (u : Un fs ex H H1 h h1) {b : Addr} {ob : Obj} (q : h.get? b = some ob) (n : H b = none) (hx : b ∉ ex) : ∃ sl, h1.get? b = some { ob with slots := sl } := by
  by_cases hb : b ∈ fs
  · exact u.slot b ob q n hb hx
  · exact ⟨ob.slots, u.keep b ob q n hb hx⟩
theorem Un.trans (a : Un fs ex H H1 h h1) (b : Un fs ex H1 H2 h1 h2) : Un fs ex H H2 h h2 where
  keep := fun c ob q n hc hx => b.keep c ob (a.keep c ob q n hc hx) (a.free c ob q n hx) hc hx
  slot := fun c ob q n hc hx => by
    obtain ⟨sl, e1⟩ := a.slot c ob q n hc hx
    obtain ⟨sl', e2⟩ := b.slot c _ e1 (a.free c ob q n hx) hc hx
    exact ⟨sl', e2⟩
  free := fun c ob q n hx => by
    obtain ⟨o', e1⟩ := a.there c ob q hx
    exact b.free c o' e1 (a.free c ob q n hx) hx
  there := fun c ob q hx => by
    obtain ⟨o', e1⟩ := a.there c ob q hx
    exact b.there c o' e1 hx
  tups := fun c xs q => b.tups c xs (a.tups c xs q)
  frzs := fun c ob xs q => b.frzs c ob xs (a.frzs c ob xs q)
  tbls := fun c ps q => by
    obtain ⟨m1, e1⟩ := a.tbls c ps q
    obtain ⟨m2, e2⟩ := b.tbls c _ e1
    exact ⟨m1 ++ m2, by rw [e2, Array.append_assoc]⟩
theorem Un.kept (k : ∀ b u, h.get? b = some u → h'.get? b = some u) : Un fs ex H H h h' :=
  ⟨fun b ob q _ _ _ => k b ob q, fun b ob q _ _ _ => ⟨ob.slots, k b ob q⟩, fun _ _ _ n _ => n, fun b ob q _ => ⟨ob, k b ob q⟩, fun _ _ q => q, fun _ _ _ q => q, fun _ ps q => ⟨#[], by rw [q]; simp⟩⟩
theorem Un.refl : Un fs ex H H h h := Un.kept fun _ _ q => q
theorem Un.laid (k : ∀ b u, h.get? b = some u → h'.get? b = some u) (hp : h.objs.size ≤ a) (hn : H a = none) : Un fs ex H (upd H a o) h h' where
  keep := fun b u q _ _ _ => k b u q
  slot := fun b u q _ _ _ => ⟨u.slots, k b u q⟩
  free := fun b u q n _ => by rw [upd_ne (Nat.ne_of_lt (Nat.lt_of_lt_of_le (Heap.lt_size q) hp))]; exact n
  there := fun b u q _ => ⟨u, k b u q⟩
  tups := fun b xs q => by rw [upd_ne (ne_of_none q hn)]; exact q
  frzs := fun b u xs q => by rw [upd_ne (ne_of_none q hn)]; exact q
  tbls := fun b ps q => ⟨#[], by rw [upd_ne (ne_of_none q hn), q]; simp⟩
theorem Un.write (mu : Mut (H x)) (he : e = x ∨ H e = some (.own x)) (k : ∀ b u, b ≠ e → h.get? b = some u → h'.get? b = some u) (heo : ∃ u, h'.get? e = some u) : Un fs ex H (upd H x o) h h' := by
  have hx : ∀ b, H b = none → b ≠ x := fun b n z => by subst z; rw [n] at mu; exact mu
  have hb : ∀ b, H b = none → b ≠ e := fun b n z => by
    subst z
    rcases he with r | r
    · exact hx b n r
    · rw [n] at r; cases r
  have hm : ∀ b u, H b = some u → ¬ Mut (some u) → b ≠ x := fun b u q nm z => by subst z; rw [q] at mu; exact nm mu
  refine ⟨fun b u q n _ _ => k b u (hb b n) q, fun b u q n _ _ => ⟨u.slots, k b u (hb b n) q⟩, fun b u q n _ => by rw [upd_ne (hx b n)]; exact n, fun b u q _ => ?_,
    fun b xs q => by rw [upd_ne (hm b _ q fun z => z)]; exact q, fun b u xs q => by rw [upd_ne (hm b _ q fun z => z)]; exact q, fun b ps q => ⟨#[], by rw [upd_ne (hm b _ q fun z => z), q]; simp⟩⟩
  by_cases hbe : b = e
  · subst hbe; exact heo
  · exact ⟨u, k b u hbe q⟩
theorem Un.mono (u : Un fs ex H H1 h h1) (hs : ∀ b ∈ fs, b ∈ fs') (hx : ∀ b ∈ ex, b ∈ ex') : Un fs' ex' H H1 h h1 :=
  ⟨fun b ob q n hb he => u.keep b ob q n (fun z => hb (hs b z)) fun z => he (hx b z), fun _ _ q n _ he => u.any q n fun z => he (hx _ z), fun b ob q n he => u.free b ob q n fun z => he (hx b z), fun b ob q he => u.there b ob q fun z => he (hx b z), u.tups, u.frzs, u.tbls⟩
end
def trk (h : Heap) (H : Hp) : List Addr := (List.range h.objs.size).filter fun a => (H a).isSome
def hidT (h : Heap) (H : Hp) : Heap := PySem.W.hideAll h (trk h H)
theorem hidT_size (h : Heap) (H : Hp) : (hidT h H).objs.size = h.objs.size := PySem.W.hideAll_size _ _
theorem hidT_get {h : Heap} {H : Hp} {b : Addr} {o : Obj} (e : h.get? b = some o) (n : H b = none) : (hidT h H).get? b = some o :=
  PySem.W.hideAll_get _ e fun hm => by
    have q : (H b).isSome = true := (List.mem_filter.mp hm).2
    rw [n] at q; simp at q
theorem of_hidT {h : Heap} {H : Hp} {b : Addr} {o : Obj} (e : (hidT h H).get? b = some o) : h.get? b = some o ∧ H b = none := by
  have e' : h.get? b = some o := PySem.W.of_hideAll (trk h H) e
  refine ⟨e', ?_⟩
  cases q : H b with
  | none => rfl
  | some x =>
    have hm : b ∈ trk h H := List.mem_filter.mpr ⟨List.mem_range.mpr (Heap.lt_size e'), by simp [q]⟩
    have z : (hidT h H).get? b = none := PySem.W.hideAll_none (trk h H) hm
    rw [z] at e; cases e

def allNews (g h : Heap) (L : Addr) : List (Addr × Obj) := (List.range h.objs.size).filterMap fun a => if a = L ∨ (g.get? a).isSome = true then none else (h.get? a).map fun o => (a, o)
def rest (g h : Heap) (L d : Addr) : List (Addr × Obj) := (allNews g h L).filter fun p => decide (p.1 ≠ d)
end L2
namespace L2
open PySem PySem.Spec PyProof.Rows
structure Mod (K : PySem.W.Frag) (mg : Str → Option Value) (base : Heap) : Prop where
  kin : K.In base
  glob : base.Ns mainGlobals mg
  blt : ∃ mb, base.Ns builtinsNs mb ∧ ∀ x : Str, x ≠ "__name__" → mb x = bootBuiltins x
  nolimit : base.NoLimit

structure Cx where
  prog : Program
  w : World
  K : PySem.W.Frag
  mg : Str → Option Value
  base : Heap
  A : Around
  N : List Str
  s₀ : Shared
  H₀ : Hp
  env : Env
  outer : List Env
  stack : List Env
  ex : List Addr
  fn : Str → Bool
  calm : Bool
  pn : List (Addr × Obj)
  xe : Value → Shared → Prop
def frs (l : List Env) : List Addr := l.filterMap (·.frame)
abbrev Cx.fs (X : Cx) : List Addr := frs X.outer

def Vis (sc : Scope) (x : Str) : Prop := sc.names.lookup x = some .local ∨ sc.names.lookup x = some .cell ∨ sc.names.lookup x = some .free
def Loc (sc : Scope) (x : Str) : Prop := sc.names.lookup x = some .local ∨ sc.names.lookup x = some .cell
def Look (env : Env) (h : Heap) (m : Str → Option Value) (x : Str) (u : Value) : Prop :=
  (env.kindOf x = some .local ∧ m x = some u) ∨ ((env.kindOf x = some .cell ∨ env.kindOf x = some .free) ∧ ∃ c, env.cells.lookup x = some c ∧ h.IsCell c (some u))

structure Cx.Ok (X : Cx) : Prop where
  mod : Mod X.K X.mg X.base
  kind : X.env.scope.kind = .function
  glob : X.env.globals = mainGlobals
  blt : X.env.builtins = builtinsNs
  above : X.s₀.heap.objs.size ≤ X.env.locals
  inj : ∀ x y c, X.env.cells.lookup x = some c → X.env.cells.lookup y = some c → x = y
  has : ∀ x, (X.env.kindOf x = some .cell ∨ X.env.kindOf x = some .free) → ∃ c, X.env.cells.lookup x = some c
  cab : ∀ x c, X.fn x = true → X.env.cells.lookup x = some c → X.s₀.heap.objs.size ≤ c
  hd : X.calm = true → X.A.handled = none
  frames : X.A.frames = some X.stack
  stk : X.stack = X.outer ∨ (X.stack = X.env :: X.outer ∧ X.env.frame = some X.env.locals)
  exf : ∀ b ∈ X.ex, b ≠ X.env.locals ∧ ∀ x c, X.env.cells.lookup x = some c → c ≠ b
  bs : ∀ b o, X.base.get? b = some o → X.s₀.heap.get? b = some o ∧ X.H₀ b = none
  bsz : X.base.objs.size ≤ X.s₀.heap.objs.size
  noex : ∀ b o, X.base.get? b = some o → b ∉ X.ex
  exfs : ∀ b ∈ X.ex, b ∉ X.fs
  funs : X.s₀.heap.FunFrames X.base X.outer
  frf : ∀ b ∈ X.fs, X.H₀ b = none

structure Inv (X : Cx) (pins : List (Addr × Obj)) (σ : List (Option V)) (H : Hp) (s : Shared) : Prop where
  ok : X.Ok
  os : s.os = X.s₀.os
  bare : AllBare s.gens
  base : Un X.fs X.ex X.H₀ H X.s₀.heap s.heap
  loc : ∃ m, s.heap.Ns X.env.locals m ∧ ∀ (i : Nat) (x : Str) (v : V), X.N[i]? = some x → σ[i]? = some (some v) → Vis X.env.scope x → ∃ u, RelV v u ∧ Look X.env s.heap m x u
  cell : ∀ x c, X.env.cells.lookup x = some c → ∃ v, s.heap.IsCell c v
  free : H X.env.locals = none
  freeC : ∀ x c, X.env.cells.lookup x = some c → H c = none
  pin : ∀ p ∈ X.pn ++ pins, s.heap.get? p.1 = some p.2 ∧ H p.1 = none ∧ p.1 ≠ X.env.locals ∧ p.1 ∉ X.fs ∧ ∀ v, p.2.data ≠ .cell v
  hok : HOk X.prog X.w H s.heap
  len : σ.length = X.N.length

section
variable {X : Cx} {pins : List (Addr × Obj)} {σ : List (Option V)} {H H' : Hp} {s : Shared} {h' : Heap}
theorem Cx.Ok.nofr (ok : X.Ok) {b : Addr} {o : Obj} (e : X.base.get? b = some o) : b ∉ X.fs := fun hb => by
  have := (ok.funs.mem hb).1
  rw [e] at this; cases this
theorem Inv.bs (I : Inv X pins σ H s) : ∀ b o, X.base.get? b = some o → s.heap.get? b = some o ∧ H b = none := fun b o e =>
  ⟨I.base.keep b o (I.ok.bs b o e).1 (I.ok.bs b o e).2 (I.ok.nofr e) (I.ok.noex b o e), I.base.free b o (I.ok.bs b o e).1 (I.ok.bs b o e).2 (I.ok.noex b o e)⟩
theorem Inv.bk (I : Inv X pins σ H s) : ∀ b o, X.base.get? b = some o → s.heap.get? b = some o := fun b o e => (I.bs b o e).1
theorem Inv.mod (I : Inv X pins σ H s) : Mod X.K X.mg X.base := I.ok.mod
theorem Inv.kIn (I : Inv X pins σ H s) : X.K.In s.heap := I.ok.mod.kin.keeps I.bk
theorem Inv.nolimit (I : Inv X pins σ H s) : s.heap.NoLimit := I.ok.mod.nolimit.keeps I.bk
theorem Inv.fr (I : Inv X pins σ H s) : ∃ m, Fr X.base X.env.locals s.heap m :=
  let ⟨m, hn, _⟩ := I.loc
  ⟨m, hn, I.bk, Nat.le_trans I.ok.bsz I.ok.above⟩
theorem Inv.lt (I : Inv X pins σ H s) : X.env.locals < s.heap.objs.size := let ⟨_, hn, _⟩ := I.loc; hn.lt
theorem Inv.sz (I : Inv X pins σ H s) : X.s₀.heap.objs.size ≤ s.heap.objs.size := Nat.le_trans I.ok.above (Nat.le_of_lt I.lt)
theorem Inv.nofs (I : Inv X pins σ H s) {a : Addr} (h : s.heap.objs.size ≤ a) : a ∉ X.fs := fun hb => by
  obtain ⟨_, o, ho, _⟩ := I.ok.funs.mem hb
  exact absurd (Nat.lt_of_lt_of_le (Heap.lt_size ho) (Nat.le_trans I.sz h)) (Nat.lt_irrefl _)
theorem Inv.cne (I : Inv X pins σ H s) : ∀ x c, X.env.cells.lookup x = some c → c ≠ X.env.locals := fun x c e z => by
  obtain ⟨v, o, ho, hd⟩ := I.cell x c e
  obtain ⟨m, ⟨o', es, ep, ho', hd', _⟩, _⟩ := I.loc
  rw [z, ho'] at ho; cases ho; rw [hd'] at hd; cases hd
theorem Inv.funs (I : Inv X pins σ H s) : s.heap.FunFrames X.base X.outer := by
  have all : ∀ (l : List Env), (∀ b ∈ frs l, b ∈ X.fs) → X.s₀.heap.FunFrames X.base l → s.heap.FunFrames X.base l := by
    intro l
    induction l with
    | nil => intro _ _; trivial
    | cons env r ih =>
      intro hs hl
      obtain ⟨hk, ⟨L, o, hf, hn, ho, hd⟩, hr⟩ := hl
      have hL : L ∈ X.fs := hs L (by unfold frs; rw [List.filterMap_cons, hf]; exact List.mem_cons_self)
      obtain ⟨sl, e⟩ := I.base.slot L o ho (I.ok.frf L hL) hL fun z => I.ok.exfs L z hL
      exact ⟨hk, ⟨L, _, hf, hn, e, hd⟩, ih (fun b hb => hs b (by unfold frs; rw [List.filterMap_cons, hf]; exact List.mem_cons_of_mem _ hb)) hr⟩
  exact all X.outer (fun _ hb => hb) I.ok.funs

theorem Inv.stack (I : Inv X pins σ H s) : s.heap.FunFrames X.base X.stack := by
  rcases I.ok.stk with e | ⟨e, hf⟩
  · rw [e]; exact I.funs
  · rw [e]
    obtain ⟨m, hn, _⟩ := I.loc
    refine .cons (by rw [I.ok.kind]; decide) hf hn ?_ I.funs
    exact Heap.get?_none_of_le (Nat.le_trans I.ok.bsz I.ok.above)
theorem Inv.stkSub (I : Inv X pins σ H s) : ∀ b ∈ frs X.stack, b ∈ X.env.locals :: X.fs := fun b hb => by
  rcases I.ok.stk with e | ⟨e, hf⟩
  · rw [e] at hb; exact List.mem_cons_of_mem _ hb
  · rw [e] at hb
    unfold frs at hb
    rw [List.filterMap_cons, hf] at hb
    exact hb
theorem Inv.stkFree (I : Inv X pins σ H s) : ∀ b ∈ frs X.stack, H b = none := fun b hb => by
  rcases List.mem_cons.mp (I.stkSub b hb) with e | hb
  · rw [e]; exact I.free
  · obtain ⟨_, o, ho, _⟩ := I.ok.funs.mem hb
    exact I.base.free b o ho (I.ok.frf b hb) fun z => I.ok.exfs b z hb

theorem Inv.step {g' : Array GenState} {t' : Nat} {d' : Drawn} {ch : List Addr} (I : Inv X pins σ H s)
    (hch : ∀ b ∈ ch, (b ∈ X.ex ∨ X.s₀.heap.objs.size ≤ b) ∧ b ≠ X.env.locals ∧ (∀ x c, X.env.cells.lookup x = some c → c ≠ b) ∧ ∀ p ∈ X.pn ++ pins, p.1 ≠ b)
    (keep : ∀ b o, b ≠ X.env.locals → b ∉ X.fs → b ∉ ch → s.heap.get? b = some o → H b = none → h'.get? b = some o)
    (slot : ∀ b o, b ≠ X.env.locals → b ∈ X.fs → b ∉ ch → s.heap.get? b = some o → H b = none → ∃ sl, h'.get? b = some { o with slots := sl }) (free : ∀ b o, b ∉ ch → s.heap.get? b = some o → H b = none → H' b = none)
    (there : ∀ b o, b ∉ ch → s.heap.get? b = some o → ∃ o', h'.get? b = some o')
    (tups : ∀ b xs, H b = some (.tup xs) → H' b = some (.tup xs)) (frzs : ∀ b o u, H b = some (.frz o u) → H' b = some (.frz o u)) (tbls : ∀ b ps, H b = some (.tbl ps) → ∃ more, H' b = some (.tbl (ps ++ more)))
    (ns : ∀ m, s.heap.Ns X.env.locals m → h'.Ns X.env.locals m) (hok : HOk X.prog X.w H' h') (hg : AllBare g') :
    Inv X pins σ H' { s with heap := h', gens := g', drawn := d', toks := t' } := by
  have neL : ∀ b o, X.s₀.heap.get? b = some o → b ≠ X.env.locals := fun b o e => Nat.ne_of_lt (Nat.lt_of_lt_of_le (Heap.lt_size e) I.ok.above)
  have neC : ∀ b o, X.s₀.heap.get? b = some o → b ∉ X.ex → b ∉ ch := fun b o e hx hb => by
    rcases (hch b hb).1 with z | z
    · exact hx z
    · exact absurd (Nat.lt_of_lt_of_le (Heap.lt_size e) z) (Nat.lt_irrefl _)
  have cellK : ∀ x c, X.env.cells.lookup x = some c → ∀ v, s.heap.IsCell c v → h'.IsCell c v := fun x c e v ⟨o, ho, hd⟩ => by
    have nch : c ∉ ch := fun z => (hch c z).2.2.1 x c e rfl
    by_cases hc : c ∈ X.fs
    · obtain ⟨sl, q⟩ := slot c o (I.cne x c e) hc nch ho (I.freeC x c e)
      exact ⟨_, q, hd⟩
    · exact ⟨o, keep c o (I.cne x c e) hc nch ho (I.freeC x c e), hd⟩
  refine ⟨I.ok, I.os, hg, ⟨fun b o e n hb hx => ?_, fun b o e n hb hx => ?_, fun b o e n hx => ?_, fun b o e hx => ?_, fun b xs e => tups b xs (I.base.tups b xs e), fun b o xs e => frzs b o xs (I.base.frzs b o xs e), fun b ps e => ?_⟩, ?_, fun x c e => ?_, ?_, fun x c e => ?_, fun p hp => ?_, hok, I.len⟩
  · exact keep b o (neL b o e) hb (neC b o e hx) (I.base.keep b o e n hb hx) (I.base.free b o e n hx)
  · obtain ⟨sl, e1⟩ := I.base.slot b o e n hb hx
    obtain ⟨sl', e2⟩ := slot b _ (neL b o e) hb (neC b o e hx) e1 (I.base.free b o e n hx)
    exact ⟨sl', e2⟩
  · obtain ⟨o', e1⟩ := I.base.there b o e hx
    exact free b o' (neC b o e hx) e1 (I.base.free b o e n hx)
  · obtain ⟨o', e1⟩ := I.base.there b o e hx
    exact there b o' (neC b o e hx) e1
  · obtain ⟨m1, e1⟩ := I.base.tbls b ps e
    obtain ⟨m2, e2⟩ := tbls b _ e1
    exact ⟨m1 ++ m2, by rw [e2, Array.append_assoc]⟩
  · obtain ⟨m, hn, hl⟩ := I.loc
    refine ⟨m, ns m hn, fun i x v e1 e2 e3 => ?_⟩
    obtain ⟨u, r, l⟩ := hl i x v e1 e2 e3
    refine ⟨u, r, ?_⟩
    rcases l with l | ⟨k, c, e, z⟩
    · exact .inl l
    · exact .inr ⟨k, c, e, cellK x c e _ z⟩
  · obtain ⟨v, z⟩ := I.cell x c e
    exact ⟨v, cellK x c e v z⟩
  · obtain ⟨m, ⟨o, _, _, ho, _⟩, _⟩ := I.loc
    exact free _ o (fun z => (hch _ z).2.1 rfl) ho I.free
  · obtain ⟨v, o, ho, hd⟩ := I.cell x c e
    exact free c o (fun z => (hch c z).2.2.1 x c e rfl) ho (I.freeC x c e)
  · obtain ⟨e, n, ne, nf, d⟩ := I.pin p hp
    have nch : p.1 ∉ ch := fun z => (hch p.1 z).2.2.2 p hp rfl
    exact ⟨keep p.1 p.2 ne nf nch e n, free p.1 p.2 nch e n, ne, nf, d⟩
theorem Inv.un {t' : Nat} (I : Inv X pins σ H s) (u : Un X.fs [] H H' s.heap h') (hok : HOk X.prog X.w H' h') : Inv X pins σ H' { s with heap := h', toks := t' } := by
  obtain ⟨m, ⟨o, es, ep, ho, r⟩, _⟩ := id I.loc
  obtain ⟨sl, hL⟩ := u.any ho I.free (by simp)
  exact I.step (g' := s.gens) (d' := s.drawn) (ch := []) (fun _ z => nomatch z) (fun b o _ hb _ e n => u.keep b o e n hb (by simp)) (fun b o _ hb _ e n => u.slot b o e n hb (by simp)) (fun b o _ e n => u.free b o e n (by simp)) (fun b o _ e => u.there b o e (by simp)) u.tups u.frzs u.tbls (fun m' hm => by
    obtain ⟨o', es', ep', ho', r'⟩ := hm
    rw [ho] at ho'; cases ho'
    exact ⟨_, es', ep', hL, r'⟩) hok I.bare
theorem Inv.call {g' : Array GenState} {t' : Nat} {d' : Drawn} {ch : List Addr} (I : Inv X pins σ H s) (u : Un (frs X.stack) ch H H' s.heap h') (hok : HOk X.prog X.w H' h') (hg : AllBare g')
    (hch : ∀ b ∈ ch, (b ∈ X.ex ∨ X.s₀.heap.objs.size ≤ b) ∧ b ≠ X.env.locals ∧ (∀ x c, X.env.cells.lookup x = some c → c ≠ b) ∧ ∀ p ∈ X.pn ++ pins, p.1 ≠ b) :
    Inv X pins σ H' { s with heap := h', gens := g', drawn := d', toks := t' } := by
  obtain ⟨m, ⟨o, es, ep, ho, r⟩, _⟩ := id I.loc
  obtain ⟨sl, hL⟩ := u.any ho I.free fun z => (hch _ z).2.1 rfl
  exact I.step (ch := ch) hch (fun b o hL hb hc e n => u.keep b o e n (fun z => (List.mem_cons.mp (I.stkSub b z)).elim hL hb) hc) (fun b o _ _ hc e n => u.any e n hc) (fun b o hc e n => u.free b o e n hc) (fun b o hc e => u.there b o e hc) u.tups u.frzs u.tbls (fun m' hm => by
    obtain ⟨o', es', ep', ho', r'⟩ := hm
    rw [ho] at ho'; cases ho'
    exact ⟨_, es', ep', hL, r'⟩) hok hg
theorem Inv.turned {t' : Nat} {it : Addr} (I : Inv X pins σ H s) (k : ∀ b o, b ≠ it → s.heap.get? b = some o → h'.get? b = some o) (hn : H it = none) (hL : it ≠ X.env.locals)
    (h1 : it ∈ X.ex ∨ X.s₀.heap.objs.size ≤ it) (h2 : ∀ x c, X.env.cells.lookup x = some c → c ≠ it) (h3 : ∀ p ∈ X.pn ++ pins, p.1 ≠ it) : Inv X pins σ H { s with heap := h', toks := t' } := by
  have nit : ∀ b u, H b = some u → b ≠ it := fun b u e z => by rw [z, hn] at e; cases e
  refine I.step (g' := s.gens) (d' := s.drawn) (ch := [it]) (fun b hb => ?_) (fun b o _ _ hc e _ => k b o (fun z => hc (by simp [z])) e) (fun b o _ _ hc e _ => ⟨o.slots, k b o (fun z => hc (by simp [z])) e⟩) (fun _ _ _ _ n => n)
    (fun b o hc e => ⟨o, k b o (fun z => hc (by simp [z])) e⟩) (fun _ _ e => e) (fun _ _ _ e => e) (fun b ps e => ⟨#[], by rw [e]; simp⟩) (fun m hm => ?_) (fun b u e => ?_) I.bare
  · have e : b = it := by simpa using hb
    subst e
    exact ⟨h1, hL, h2, h3⟩
  · obtain ⟨o, es, ep, ho, r⟩ := hm
    exact ⟨o, es, ep, k _ o (Ne.symm hL) ho, r⟩
  · refine (I.hok b u e).stay (fun c v hc q => k c v ?_ q) (fun _ q => q) fun _ _ q => q
    rcases hc with z | z
    · rw [z]; exact nit b u e
    · exact nit c _ z
theorem Inv.tok (I : Inv X pins σ H s) (t : Nat) : Inv X pins σ H { s with toks := t } := I.un (h' := s.heap) (t' := t) Un.refl I.hok
theorem Inv.kept {t' : Nat} (I : Inv X pins σ H s) (k : ∀ b u, s.heap.get? b = some u → h'.get? b = some u) : Inv X pins σ H { s with heap := h', toks := t' } := I.un (Un.kept k) (I.hok.kept k)
theorem Inv.laid {a : Addr} {o : HO} {t' : Nat} (I : Inv X pins σ H s) (k : ∀ b u, s.heap.get? b = some u → h'.get? b = some u) (hp : s.heap.objs.size ≤ a) (new : ObjOk X.prog X.w (upd H a o) h' a o) :
    Inv X pins σ (upd H a o) { s with heap := h', toks := t' } := I.un (Un.laid k hp (I.hok.fresh hp)) (I.hok.laid k hp new)
theorem Inv.write {x e : Addr} {o : HO} {t' : Nat} (I : Inv X pins σ H s) (mu : Mut (H x)) (he : e = x ∨ H e = some (.own x)) (k : ∀ b u, b ≠ e → s.heap.get? b = some u → h'.get? b = some u) (heo : ∃ u, h'.get? e = some u)
    (new : ObjOk X.prog X.w (upd H x o) h' x o) : Inv X pins σ (upd H x o) { s with heap := h', toks := t' } := I.un (Un.write mu he k heo) (I.hok.write mu he k heo new)
theorem Inv.weak {σ' : List (Option V)} (I : Inv X pins σ H s) (hl : σ'.length = σ.length) (w : ∀ (i : Nat) v, σ'[i]? = some (some v) → σ[i]? = some (some v)) : Inv X pins σ' H s :=
  ⟨I.ok, I.os, I.bare, I.base, let ⟨m, hn, hl'⟩ := I.loc; ⟨m, hn, fun i x v e1 e2 e3 => hl' i x v e1 (w i v e2) e3⟩, I.cell, I.free, I.freeC, I.pin, I.hok, hl.trans I.len⟩
theorem Inv.pins_of {pins' : List (Addr × Obj)} (I : Inv X pins σ H s) (h : ∀ p ∈ pins', s.heap.get? p.1 = some p.2 ∧ H p.1 = none ∧ p.1 ≠ X.env.locals ∧ p.1 ∉ X.fs ∧ ∀ v, p.2.data ≠ .cell v) : Inv X pins' σ H s :=
  ⟨I.ok, I.os, I.bare, I.base, I.loc, I.cell, I.free, I.freeC, fun p hp => (List.mem_append.mp hp).elim (fun z => I.pin p (List.mem_append_left _ z)) (h p), I.hok, I.len⟩

theorem nodup_ix {N : List Str} (hN : N.Nodup) {i j : Nat} {x : Str} (a : N[i]? = some x) (b : N[j]? = some x) : i = j := by
  obtain ⟨h1, e1⟩ := List.getElem?_eq_some_iff.mp a
  obtain ⟨h2, e2⟩ := List.getElem?_eq_some_iff.mp b
  exact (List.getElem_inj hN).mp (e1.trans e2.symm)

theorem store_ok2 {M : Model} {A : Around} {E : Value → Shared → Prop} {i : Nat} {x : Str} {v : V} {u : Value} {Q : Unit → Shared → Prop} (I : Inv X pins σ H s) (hN : X.N.Nodup) (hi : X.N[i]? = some x) (hx : Loc X.env.scope x) (r : RelV v u)
    (h : ∀ s', Inv X pins (σ.set i (some v)) H s' → (∃ a, Heap.SameBut a s.heap s'.heap ∧ (a = X.env.locals ∨ X.env.cells.lookup x = some a)) → Q () s') (hf : X.fn x = true ∨ X.env.scope.names.lookup x = some .local := by first | exact .inl rfl | exact .inr rfl | assumption) : wpAny M A (storeName X.env x u) Q E s := by
  obtain ⟨m, hn, hl⟩ := id I.loc
  have hcls : (X.env.scope.kind == .class || (X.env.scope.kind == .module && X.env.locals != X.env.globals)) = false := by rw [I.ok.kind]; rfl
  have hiσ : i < σ.length := by rw [I.len]; exact (List.getElem?_eq_some_iff.mp hi).1
  have cne := I.cne
  have tracked : ∀ {a : Addr} {h' : Heap}, (∃ o, s.heap.get? a = some o ∧ H a = none) → Heap.SameBut a s.heap h' → HOk X.prog X.w H h' := fun {a h'} ha hs b ob e => by
    obtain ⟨_, _, hfree⟩ := ha
    refine (I.hok b ob e).stay (fun c w' hc q => (hs.2 c ?_).trans q) (fun _ q => q) fun _ _ q => q
    rintro rfl
    rcases hc with rfl | hc
    · rw [hfree] at e; cases e
    · rw [hfree] at hc; cases hc
  rcases hx with hk | hk
  · refine wpAny_storeName_local hk hn (fun h' hn' hs => ?_) hcls
    obtain ⟨oL, _, _, hoL, _⟩ := id hn
    refine h _ ⟨I.ok, I.os, I.bare, ⟨fun b o e n hb hx => ?_, fun b o e n hb hx => ?_, I.base.free, fun b o e hx => ?_, I.base.tups, I.base.frzs, I.base.tbls⟩, ⟨_, hn', fun j y v' e1 e2 e3 => ?_⟩, fun y c e => ?_, I.free, I.freeC, fun p hp => ?_, tracked ⟨oL, hoL, I.free⟩ hs, by simpa using I.len⟩ ⟨_, hs, .inl rfl⟩
    · exact (hs.2 b (Nat.ne_of_lt (Nat.lt_of_lt_of_le (Heap.lt_size e) I.ok.above))).trans (I.base.keep b o e n hb hx)
    · obtain ⟨sl, e1⟩ := I.base.slot b o e n hb hx
      exact ⟨sl, (hs.2 b (Nat.ne_of_lt (Nat.lt_of_lt_of_le (Heap.lt_size e) I.ok.above))).trans e1⟩
    · obtain ⟨o', e1⟩ := I.base.there b o e hx
      exact ⟨o', (hs.2 b (Nat.ne_of_lt (Nat.lt_of_lt_of_le (Heap.lt_size e) I.ok.above))).trans e1⟩
    · by_cases hj : j = i
      · subst hj
        rw [hi] at e1; cases e1
        rw [List.getElem?_set_self hiσ] at e2
        cases e2
        exact ⟨u, r, .inl ⟨hk, by simp⟩⟩
      · rw [List.getElem?_set_ne (Ne.symm hj)] at e2
        obtain ⟨u', r', q⟩ := hl j y v' e1 e2 e3
        refine ⟨u', r', ?_⟩
        rcases q with ⟨k, e⟩ | ⟨k, c, e, z⟩
        · refine .inl ⟨k, ?_⟩
          have : y ≠ x := fun e => hj (nodup_ix hN e1 (e ▸ hi))
          simp [this, e]
        · exact .inr ⟨k, c, e, z.sameBut hs (cne y c e)⟩
    · obtain ⟨w', z⟩ := I.cell y c e
      exact ⟨w', z.sameBut hs (cne y c e)⟩
    · obtain ⟨e, n, ne, nf, d⟩ := I.pin p hp
      exact ⟨(hs.2 p.1 ne).trans e, n, ne, nf, d⟩
  · have hfn : X.fn x = true := by
      rcases hf with z | z
      · exact z
      · rw [z] at hk; cases hk
    obtain ⟨c, hc⟩ := I.ok.has x (.inl hk)
    obtain ⟨w', z⟩ := I.cell x c hc
    refine wpAny_storeName_cell I.ok.kind hk hc z (fun h' hc' hs => ?_)
    obtain ⟨oc, hoc, hocd⟩ := id z
    refine h { s with heap := h' } ⟨I.ok, I.os, I.bare, ⟨fun b o e n hb hx => ?_, fun b o e n hb hx => ?_, I.base.free, fun b o e hx => ?_, I.base.tups, I.base.frzs, I.base.tbls⟩, ⟨m, hn.sameBut hs (Ne.symm (cne x c hc)), fun j y v' e1 e2 e3 => ?_⟩, fun y c' e => ?_, I.free, I.freeC, fun p hp => ?_, tracked ⟨oc, hoc, I.freeC x c hc⟩ hs, by simpa using I.len⟩ ⟨c, hs, .inr hc⟩
    · exact (hs.2 b (Nat.ne_of_lt (Nat.lt_of_lt_of_le (Heap.lt_size e) (I.ok.cab x c hfn hc)))).trans (I.base.keep b o e n hb hx)
    · obtain ⟨sl, e1⟩ := I.base.slot b o e n hb hx
      exact ⟨sl, (hs.2 b (Nat.ne_of_lt (Nat.lt_of_lt_of_le (Heap.lt_size e) (I.ok.cab x c hfn hc)))).trans e1⟩
    · obtain ⟨o', e1⟩ := I.base.there b o e hx
      exact ⟨o', (hs.2 b (Nat.ne_of_lt (Nat.lt_of_lt_of_le (Heap.lt_size e) (I.ok.cab x c hfn hc)))).trans e1⟩
    · by_cases hj : j = i
      · subst hj
        rw [hi] at e1; cases e1
        rw [List.getElem?_set_self hiσ] at e2
        cases e2
        exact ⟨u, r, .inr ⟨.inl hk, c, hc, hc'⟩⟩
      · rw [List.getElem?_set_ne (Ne.symm hj)] at e2
        obtain ⟨u', r', q⟩ := hl j y v' e1 e2 e3
        refine ⟨u', r', ?_⟩
        rcases q with q | ⟨k, c', e, z'⟩
        · exact .inl q
        · refine .inr ⟨k, c', e, z'.sameBut hs ?_⟩
          rintro rfl
          exact hj (nodup_ix hN e1 (I.ok.inj _ _ _ e hc ▸ hi))
    · by_cases hcc : c' = c
      · subst hcc; exact ⟨_, hc'⟩
      · obtain ⟨w2, z2⟩ := I.cell y c' e
        exact ⟨w2, z2.sameBut hs hcc⟩
    · obtain ⟨e, n, ne, nf, d⟩ := I.pin p hp
      refine ⟨(hs.2 p.1 ?_).trans e, n, ne, nf, d⟩
      intro q
      rw [q, hoc] at e
      have q' : oc = p.2 := Option.some.inj e
      exact d w' (by rw [← q']; exact hocd)
theorem store_ok {M : Model} {A : Around} {E : Value → Shared → Prop} {i : Nat} {x : Str} {v : V} {u : Value} {Q : Unit → Shared → Prop} (I : Inv X pins σ H s) (hN : X.N.Nodup) (hi : X.N[i]? = some x) (hx : Loc X.env.scope x) (r : RelV v u)
    (h : ∀ s', Inv X pins (σ.set i (some v)) H s' → Q () s') (hf : X.fn x = true ∨ X.env.scope.names.lookup x = some .local := by first | exact .inl rfl | exact .inr rfl | assumption) : wpAny M A (storeName X.env x u) Q E s :=
  store_ok2 I hN hi hx r (fun s' I' _ => h s' I') hf
theorem Inv.call' {s' : Shared} {ch : List Addr} (I : Inv X pins σ H s) (ho : s'.os = s.os) (u : Un (frs X.stack) ch H H' s.heap s'.heap) (hok : HOk X.prog X.w H' s'.heap) (hg : AllBare s'.gens)
    (hch : ∀ b ∈ ch, (b ∈ X.ex ∨ X.s₀.heap.objs.size ≤ b) ∧ b ≠ X.env.locals ∧ (∀ x c, X.env.cells.lookup x = some c → c ≠ b) ∧ ∀ p ∈ X.pn ++ pins, p.1 ≠ b) : Inv X pins σ H' s' := by
  obtain ⟨h', g', d', t', o'⟩ := s'
  have e : o' = s.os := ho
  subst e
  exact I.call (g' := g') (t' := t') (d' := d') u hok hg hch
end
abbrev XK := Value → Option Addr → Hp → Prop
abbrev St := List (Option V)
abbrev VK := V → Hp → Prop
abbrev TE := St → Hp → VK → Prop
abbrev TT := St → Hp → (Bool → Hp → Prop) → Prop
abbrev TA := St → Hp → (List V → Hp → Prop) → Prop
structure Ends where
  nx : St → Hp → Prop
  rt : VK
  bk : St → Hp → Prop := fun _ _ => False
  ct : St → Hp → Prop := fun _ _ => False
abbrev TS := Ends → St → Hp → Prop

def EP (X : Cx) (pins : List (Addr × Obj)) (σ : St) (Q : VK) (u : Value) (s' : Shared) : Prop := ∃ v H', Inv X pins σ H' s' ∧ RelV v u ∧ Q v H'
def TP (X : Cx) (pins : List (Addr × Obj)) (σ : St) (Q : Bool → Hp → Prop) (b : Bool) (s' : Shared) : Prop := ∃ H', Inv X pins σ H' s' ∧ Q b H'
def AP (X : Cx) (pins : List (Addr × Obj)) (σ : St) (Q : List V → Hp → Prop) (us : List Value) (s' : Shared) : Prop := ∃ vs H', Inv X pins σ H' s' ∧ Vals vs us ∧ Q vs H'
def SP (X : Cx) (pins : List (Addr × Obj)) (D : Ends) (f : Flow) (s' : Shared) : Prop :=
  match f with
  | .next => ∃ σ' H', Inv X pins σ' H' s' ∧ D.nx σ' H'
  | .brk => ∃ σ' H', Inv X pins σ' H' s' ∧ D.bk σ' H'
  | .cont => ∃ σ' H', Inv X pins σ' H' s' ∧ D.ct σ' H'
  | .ret u => ∃ v σ' H', Inv X pins σ' H' s' ∧ RelV v u ∧ D.rt v H'

def PE (X : Cx) (e : Expr) (t : TE) : Prop :=
  ∀ (pins : List (Addr × Obj)) (s : Shared) (σ : St) (H : Hp) (Q : VK), Inv X pins σ H s → t σ H Q → wpAny (model X.prog X.w) X.A (eval e X.env) (EP X pins σ Q) X.xe s
def PT (X : Cx) (e : Expr) (t : TT) : Prop :=
  ∀ (pins : List (Addr × Obj)) (s : Shared) (σ : St) (H : Hp) (Q : Bool → Hp → Prop), Inv X pins σ H s → t σ H Q → wpAny (model X.prog X.w) X.A (isTrue e X.env (eval e X.env)) (TP X pins σ Q) X.xe s
def PW (X : Cx) (e : Expr) (t : TT) : Prop :=
  ∀ (whole : Sem Value) (pins : List (Addr × Obj)) (s : Shared) (σ : St) (H : Hp) (Q : Bool → Hp → Prop), Inv X pins σ H s → t σ H Q → wpAny (model X.prog X.w) X.A (isTrue e X.env whole) (TP X pins σ Q) X.xe s
theorem PW.pt {X : Cx} {e : Expr} {t : TT} (h : PW X e t) : PT X e t := h _
def PA (X : Cx) (es : List Expr) (t : TA) : Prop :=
  ∀ (pos : Pos) (pins : List (Addr × Obj)) (s : Shared) (σ : St) (H : Hp) (Q : List V → Hp → Prop), Inv X pins σ H s → t σ H Q → wpAny (model X.prog X.w) X.A (spliced (backTo pos (starEach es X.env))) (AP X pins σ Q) X.xe s
def PS (X : Cx) (st : Stmt) (t : TS) : Prop :=
  ∀ (pins : List (Addr × Obj)) (s : Shared) (σ : St) (H : Hp) (D : Ends), Inv X pins σ H s → t D σ H → wpAny (model X.prog X.w) X.A (exec st X.env) (SP X pins D) X.xe s
def PSs (X : Cx) (st : List Stmt) (t : TS) : Prop :=
  ∀ (pins : List (Addr × Obj)) (s : Shared) (σ : St) (H : Hp) (D : Ends), Inv X pins σ H s → t D σ H → wpAny (model X.prog X.w) X.A (execs st X.env) (SP X pins D) X.xe s
theorem thn {α : Type} {t : Sem α} {Q Q' : α → Shared → Prop} {M : Model} {A : Around} {E : Value → Shared → Prop} {s : Shared} (h : wpAny M A t Q E s) (hQ : ∀ a s, Q a s → Q' a s) : wpAny M A t Q' E s := wpAny_mono h hQ fun _ _ x => x
end L2
namespace L2
open PySem PySem.Spec PyProof.Rows
section
variable {X : Cx}
def tVar (i : Nat) : TE := fun σ H Q => ∃ v, σ[i]? = some (some v) ∧ Q v H
def tC (v : V) : TE := fun _ H Q => Q v H
theorem pe_var {i : Nat} {x : Str} {pos : Pos} (hN : X.N[i]? = some x) (hv : Vis X.env.scope x) (hd : (x == ("__debug__" : Str)) = false := by decide) (hcd : (x == ("__classdict__" : Str)) = false := by decide) : PE X (.Name x pos) (tVar i) := by
  intro pins s σ H Q I h
  obtain ⟨v, e, h⟩ := h
  obtain ⟨m, hn, hl⟩ := I.loc
  obtain ⟨u, r, l⟩ := hl i x v hN e hv
  have fin : EP X pins σ Q u s := ⟨v, H, I, r, h⟩
  rcases l with ⟨hk, hm⟩ | ⟨hk, c, hc, hcell⟩
  · exact wpAny_Name (wpAny_loadName_local I.ok.kind hk hn hm fin) hd
  · rcases hk with hk | hk
    · exact wpAny_Name (wpAny_loadName_cell I.ok.kind hk hc hcell fin) hd
    · exact wpAny_Name (wpAny_loadName_free I.ok.kind hk hc hcell fin hcd) hd
theorem pe_int {i j pos} : PE X (.Constant (.int i) j pos) (tC (.int i)) := fun _ _ _ H _ I h => wpAny_Constant_int ⟨.int i, H, I.tok _, ⟨_, rfl⟩, h⟩
theorem pe_bl {b j pos} : PE X (.Constant (.bool b) j pos) (tC (.bl b)) := fun _ _ _ H _ I h => Constant_bool ⟨.bl b, H, I, rfl, h⟩
theorem pe_non {j pos} : PE X (.Constant .none j pos) (tC .non) := fun _ _ _ H _ I h => Constant_none ⟨.non, H, I, rfl, h⟩
theorem pe_str {x j pos} : PE X (.Constant (.str x) j pos) (tC (.str x)) := fun _ _ _ H _ I h => Calls.Constant_str ⟨.str x, H, I.tok _, ⟨_, rfl⟩, h⟩

def Gl (X : Cx) (x : Str) : Prop := X.env.kindOf x = some .globalImplicit
theorem ld_glob {E : Value → Shared → Prop} {pins : List (Addr × Obj)} {s : Shared} {σ : St} {H : Hp} {x : Str} {u : Value} {pos : Pos} {Q : Value → Shared → Prop} (I : Inv X pins σ H s) (hg : Gl X x) (hm : X.mg x = some u) (h : Q u s)
    (hd : (x == ("__debug__" : Str)) = false := by decide) : wpAny (model X.prog X.w) X.A (eval (.Name x pos) X.env) Q E s :=
  Calls.Name_function_global I.ok.kind hg (Calls.loadGlobal_global (by rw [I.ok.glob]; exact I.mod.glob.keeps I.bk) hm h) hd
theorem ld_blt {E : Value → Shared → Prop} {pins : List (Addr × Obj)} {s : Shared} {σ : St} {H : Hp} {x : Str} {u : Value} {pos : Pos} {Q : Value → Shared → Prop} (I : Inv X pins σ H s) (hg : Gl X x) (hm : X.mg x = none) (hv : bootBuiltins x = some u) (h : Q u s)
    (hn : x ≠ "__name__" := by decide) (hd : (x == ("__debug__" : Str)) = false := by decide) : wpAny (model X.prog X.w) X.A (eval (.Name x pos) X.env) Q E s := by
  obtain ⟨mb, h1, h2⟩ := I.mod.blt
  exact Calls.Name_function_global I.ok.kind hg (Calls.loadGlobal_builtin (by rw [I.ok.glob]; exact I.mod.glob.keeps I.bk) hm (by rw [I.ok.blt]; exact h1.keeps I.bk) ((h2 x hn).trans hv) h) hd
theorem pe_glob {x : Str} {v : V} {u : Value} {pos : Pos} (hg : Gl X x) (hm : X.mg x = some u) (r : RelV v u) (hd : (x == ("__debug__" : Str)) = false := by decide) : PE X (.Name x pos) (tC v) :=
  fun _ _ _ H _ I h => ld_glob I hg hm ⟨v, H, I, r, h⟩ hd
theorem pe_bltn {x : Str} {v : V} {u : Value} {pos : Pos} (hg : Gl X x) (hm : X.mg x = none) (hv : bootBuiltins x = some u) (r : RelV v u) (hn : x ≠ "__name__" := by decide) (hd : (x == ("__debug__" : Str)) = false := by decide) : PE X (.Name x pos) (tC v) :=
  fun _ _ _ H _ I h => ld_blt I hg hm hv ⟨v, H, I, r, h⟩ hn hd

variable {a b : Expr} {ta tb : TE} {pos : Pos}
def PC (X : Cx) (op : CmpOp) (a b : Expr) (t : TE) : Prop :=
  ∀ (pins : List (Addr × Obj)) (s : Shared) (σ : St) (H : Hp) (Q : VK), Inv X pins σ H s → t σ H Q →
    wpAny (model X.prog X.w) X.A (eval a X.env) (fun v s₁ => wpAny (model X.prog X.w) X.A (eval b X.env) (fun u s₂ => wpAny (model X.prog X.w) X.A (compareOp op v u) (EP X pins σ Q) X.xe s₂) X.xe s₁) X.xe s
theorem nobehind (b : Expr) {op : CmpOp} (h : op ≠ .In) (h2 : op ≠ .NotIn) : behindInMarks op b = false := by
  have e1 : (op == CmpOp.In) = false := by cases op <;> first | rfl | exact absurd rfl h
  have e2 : (op == CmpOp.NotIn) = false := by cases op <;> first | rfl | exact absurd rfl h2
  cases b <;> simp [behindInMarks, e1, e2]
theorem RelV.none_iff {x : V} {v : Value} (r : RelV x v) : (v == Value.none) = decide (x = .non) := by
  cases x with
  | non => cases r; rfl
  | bl _ => cases r; rfl
  | int _ => obtain ⟨t, rfl⟩ := r; rfl
  | str _ => obtain ⟨t, rfl⟩ := r; rfl
  | byt _ => obtain ⟨t, rfl⟩ := r; rfl
  | flt _ => obtain ⟨t, rfl⟩ := r; rfl
  | ref _ => cases r; rfl
  | ty _ => cases r; rfl
def tB (t : TE) : TT := fun σ H Q => t σ H fun x H1 => ∃ c, x = .bl c ∧ Q c H1
theorem pt_cmp {op : CmpOp} {t : TE} (h : PC X op a b t) (h1 : behindInMarks op b = false := by first | exact nobehind _ (by decide) (by decide) | rfl) : PT X (.Compare a [op] [b] pos) (tB t) := by
  intro pins s σ H Q I hw
  refine wpAny_isTrue_Compare1 (thn (h pins s σ H _ I hw) fun v s1 h1 => thn h1 fun u s2 h2 => thn h2 fun c s3 ⟨x, H1, I1, r1, q1⟩ => ?_) h1
  obtain ⟨d, rfl, q⟩ := q1
  cases r1
  exact wpAny_truthy_bool ⟨H1, I1, q⟩
theorem pt_val {e : Expr} {t : TE} (h : PE X e t) (he : ∀ whole, isTrue e X.env whole = (do let v ← whole; standAt e.pos; holding [v] (truthy v)) := by intro _; rfl) : PT X e (tB t) := by
  intro pins s σ H Q I hw
  refine isTrue_plain (thn (h pins s σ H _ I hw) fun v s1 ⟨x, H1, I1, r1, q1⟩ => ?_) (he _)
  obtain ⟨d, rfl, q⟩ := q1
  cases r1
  exact wpAny_truthy_bool ⟨H1, I1, q⟩

variable {tA tB' : TT} {rest : List Expr}
def tAnd (t u : TT) : TT := fun σ H Q => t σ H fun c H1 => if c = true then u σ H1 Q else Q false H1
def tOr (t u : TT) : TT := fun σ H Q => t σ H fun c H1 => if c = true then Q true H1 else u σ H1 Q
def tNot (t : TT) : TT := fun σ H Q => t σ H fun c H1 => Q (!c) H1
theorem pw_and1 (ha : PT X a tA) : PW X (.BoolOp .And [a] pos) tA := by
  intro wh pins s σ H Q I h
  refine isTrue_and (thn (ha pins s σ H Q I h) fun c s1 e => ?_)
  cases c with
  | true => exact isTrue_and_nil e
  | false => exact e
theorem pw_or1 (ha : PT X a tA) : PW X (.BoolOp .Or [a] pos) tA := by
  intro wh pins s σ H Q I h
  refine isTrue_or (thn (ha pins s σ H Q I h) fun c s1 e => ?_)
  cases c with
  | false => exact isTrue_or_nil e
  | true => exact e
theorem pw_and (ha : PT X a tA) (hb : PW X (.BoolOp .And (b :: rest) pos) tB') : PW X (.BoolOp .And (a :: b :: rest) pos) (tAnd tA tB') := by
  intro wh pins s σ H Q I h
  refine isTrue_and (thn (ha pins s σ H _ I h) fun c s1 ⟨H1, I1, q1⟩ => ?_)
  cases c with
  | true => exact hb wh pins s1 σ H1 Q I1 q1
  | false => exact ⟨H1, I1, q1⟩
theorem pw_or (ha : PT X a tA) (hb : PW X (.BoolOp .Or (b :: rest) pos) tB') : PW X (.BoolOp .Or (a :: b :: rest) pos) (tOr tA tB') := by
  intro wh pins s σ H Q I h
  refine isTrue_or (thn (ha pins s σ H _ I h) fun c s1 ⟨H1, I1, q1⟩ => ?_)
  cases c with
  | true => exact ⟨H1, I1, q1⟩
  | false => exact hb wh pins s1 σ H1 Q I1 q1
theorem pt_not (ha : PT X a tA) : PT X (.UnaryOp .Not a pos) (tNot tA) := by
  intro pins s σ H Q I h
  exact isTrue_not (ha pins s σ H (fun c H1 => Q (!c) H1) I h)
def tIf (t : TT) (ta tb : TE) : TE := fun σ H Q => t σ H fun c H1 => if c = true then ta σ H1 Q else tb σ H1 Q
theorem pe_ifExp {c : Expr} (hc : PT X c tA) (ha : PE X a ta) (hb : PE X b tb) : PE X (.IfExp c a b pos) (tIf tA ta tb) := by
  intro pins s σ H Q I h
  refine wpAny_IfExp (thn (hc pins s σ H _ I h) fun d s1 ⟨H1, I1, q1⟩ => ?_)
  cases d with
  | true => exact ha pins s1 σ H1 Q I1 q1
  | false => exact hb pins s1 σ H1 Q I1 q1
end
end L2
namespace L2
open PySem PySem.Spec PyProof.Rows
def SqL (K : PySem.W.Frag) (H : Hp) (a : Addr) (xs : List V) : Prop :=
  Rd H a (.lst xs) ∨
    ∃ (o : Obj) (its : Array Value) (n : Nat), K.lookup a = some o ∧ o.cls = .type "list" ∧ o.dict = none ∧ o.data = .seq its n ∧ its.size ≤ sizeLine ∧ Vals xs its.toList
def SqT (K : PySem.W.Frag) (H : Hp) (a : Addr) (xs : List V) : Prop :=
  Rd H a (.tup xs) ∨
    ∃ (o : Obj) (its : Array Value) (n : Nat), K.lookup a = some o ∧ o.cls = .type "tuple" ∧ o.data = .seq its n ∧ its.size ≤ sizeLine ∧ Vals xs its.toList
def absV : Value → Option V
  | .none => some .non
  | .bool b => some (.bl b)
  | .int i _ => some (.int i)
  | .str x _ => some (.str x)
  | .bytes b _ => some (.byt b)
  | .float b _ => some (.flt b)
  | .ref a => some (.ref a)
  | .type n => some (.ty n)
  | _ => none
theorem RelV.abs {x : V} {u : Value} (r : RelV x u) : absV u = some x := by
  cases x with
  | non => cases r; rfl
  | bl _ => cases r; rfl
  | int _ => obtain ⟨t, rfl⟩ := r; rfl
  | str _ => obtain ⟨t, rfl⟩ := r; rfl
  | byt _ => obtain ⟨t, rfl⟩ := r; rfl
  | flt _ => obtain ⟨t, rfl⟩ := r; rfl
  | ref _ => cases r; rfl
  | ty _ => cases r; rfl
theorem RelV.inj {x y : V} {u : Value} (r : RelV x u) (q : RelV y u) : x = y := Option.some.inj (r.abs.symm.trans q.abs)
theorem Vals.inj : ∀ {xs ys : List V} {us : List Value}, Vals xs us → Vals ys us → xs = ys
  | _, _, _, .nil, .nil => rfl
  | _, _, _, .cons r t, .cons r' t' => by rw [r.inj r', Vals.inj t t']
section
variable {X : Cx} {pins : List (Addr × Obj)} {σ : St} {H : Hp} {s : Shared} {a : Addr} {xs ys : List V}
theorem SqL.of {K : PySem.W.Frag} (h : H a = some (.lst xs)) : SqL K H a xs := .inl (.inl h)
theorem SqT.of {K : PySem.W.Frag} (h : H a = some (.tup xs)) : SqT K H a xs := .inl (.inl h)
theorem Inv.list (I : Inv X pins σ H s) (h : SqL X.K H a xs) : ∃ its : List Value, Vals xs its ∧ PlainL s.heap a its.toArray ∧ xs.length ≤ sizeLine := by
  rcases h with h | ⟨o, its, n, hk, hc, hd, hs, hz, r⟩
  · obtain ⟨z, its, n, r, e⟩ := h.ok I.hok
    exact ⟨its, r, ⟨_, n, e, rfl, rfl, rfl⟩, z⟩
  · refine ⟨its.toList, r, ⟨o, n, I.kIn a o hk, hc, hd, by simpa using hs⟩, ?_⟩
    have e := r.length
    simp only [Array.length_toList] at e
    omega
theorem Inv.tuple (I : Inv X pins σ H s) (h : SqT X.K H a xs) : ∃ its : List Value, Vals xs its ∧ IsTup s.heap a its.toArray ∧ xs.length ≤ sizeLine := by
  rcases h with h | ⟨o, its, n, hk, hc, hs, hz, r⟩
  · obtain ⟨z, its, r, p⟩ := h.ok I.hok
    exact ⟨its, r, p, z⟩
  · refine ⟨its.toList, r, ⟨o, I.kIn a o hk, hc, n, by simpa using hs⟩, ?_⟩
    have e := r.length
    simp only [Array.length_toList] at e
    omega
theorem Inv.list_inj (I : Inv X pins σ H s) (h : SqL X.K H a xs) (h' : SqL X.K H a ys) : xs = ys := by
  obtain ⟨its, r, ⟨o, n, e, _, _, d⟩, _⟩ := I.list h
  obtain ⟨its', r', ⟨o', n', e', _, _, d'⟩, _⟩ := I.list h'
  rw [e] at e'; cases e'
  rw [d] at d'
  injection d' with d1 _
  have : its = its' := by simpa using congrArg Array.toList d1
  subst this
  exact r.inj r'
theorem Inv.tuple_inj (I : Inv X pins σ H s) (h : SqT X.K H a xs) (h' : SqT X.K H a ys) : xs = ys := by
  obtain ⟨its, r, ⟨o, e, _, n, d⟩, _⟩ := I.tuple h
  obtain ⟨its', r', ⟨o', e', _, n', d'⟩, _⟩ := I.tuple h'
  rw [e] at e'; cases e'
  rw [d] at d'
  injection d' with d1 _
  have : its = its' := by simpa using congrArg Array.toList d1
  subst this
  exact r.inj r'
end
abbrev Cx.wish (X : Cx) (E : Value → Shared → Prop) : Cx := { X with xe := E }
abbrev Cx.nox (X : Cx) : Cx := X.wish fun _ _ => False
theorem Cx.Ok.wish {X : Cx} (ok : X.Ok) (E : Value → Shared → Prop) : (X.wish E).Ok :=
  ⟨ok.mod, ok.kind, ok.glob, ok.blt, ok.above, ok.inj, ok.has, ok.cab, ok.hd, ok.frames, ok.stk, ok.exf, ok.bs, ok.bsz, ok.noex, ok.exfs, ok.funs, ok.frf⟩
theorem Cx.Ok.unwish {X : Cx} {E : Value → Shared → Prop} (ok : (X.wish E).Ok) : X.Ok :=
  ⟨ok.mod, ok.kind, ok.glob, ok.blt, ok.above, ok.inj, ok.has, ok.cab, ok.hd, ok.frames, ok.stk, ok.exf, ok.bs, ok.bsz, ok.noex, ok.exfs, ok.funs, ok.frf⟩
section
variable {X : Cx} {pins : List (Addr × Obj)} {σ : St} {H : Hp} {s : Shared} {E : Value → Shared → Prop}
theorem Inv.wish (I : Inv X pins σ H s) (E : Value → Shared → Prop) : Inv (X.wish E) pins σ H s := ⟨I.ok.wish E, I.os, I.bare, I.base, I.loc, I.cell, I.free, I.freeC, I.pin, I.hok, I.len⟩
theorem Inv.unwish (I : Inv (X.wish E) pins σ H s) : Inv X pins σ H s := ⟨I.ok.unwish, I.os, I.bare, I.base, I.loc, I.cell, I.free, I.freeC, I.pin, I.hok, I.len⟩
theorem SP.unwish {D : Ends} {f : Flow} {s' : Shared} (h : SP (X.wish E) pins D f s') : SP X pins D f s' := by
  cases f with
  | next => obtain ⟨σ', H', I, q⟩ := h; exact ⟨σ', H', I.unwish, q⟩
  | brk => obtain ⟨σ', H', I, q⟩ := h; exact ⟨σ', H', I.unwish, q⟩
  | cont => obtain ⟨σ', H', I, q⟩ := h; exact ⟨σ', H', I.unwish, q⟩
  | ret u => obtain ⟨v, σ', H', I, r, q⟩ := h; exact ⟨v, σ', H', I.unwish, r, q⟩
theorem PE.nox {e : Expr} {t : TE} (h : PE X.nox e t) : PE X e t := fun pins s σ H Q I hw =>
  wpAny_mono (h pins s σ H Q (I.wish _) hw) (fun _ _ ⟨v, H', I', r, q⟩ => ⟨v, H', I'.unwish, r, q⟩) fun _ _ z => False.elim z
theorem PT.nox {e : Expr} {t : TT} (h : PT X.nox e t) : PT X e t := fun pins s σ H Q I hw =>
  wpAny_mono (h pins s σ H Q (I.wish _) hw) (fun _ _ ⟨H', I', q⟩ => ⟨H', I'.unwish, q⟩) fun _ _ z => False.elim z
theorem PSs.nox {st : List Stmt} {t : TS} (h : PSs X.nox st t) : PSs X st t := fun pins s σ H D I hw =>
  wpAny_mono (h pins s σ H D (I.wish _) hw) (fun _ _ q => q.unwish) fun _ _ z => False.elim z
end
section
variable {X : Cx} {st : Stmt} {rest : List Stmt} {t u : TS} {e : Expr} {te : TE} {pos : Pos}
def tNext : TS := fun D σ H => D.nx σ H
def tSeq (t u : TS) : TS := fun D σ H => t { D with nx := u D } σ H
theorem pss_nil : PSs X [] tNext := fun _ _ σ H _ I h => wpAny_execs_nil ⟨σ, H, I, h⟩
theorem pss_cons (h1 : PS X st t) (h2 : PSs X rest u) : PSs X (st :: rest) (tSeq t u) := by
  intro pins s σ H D I h
  refine wpAny_execs_cons (thn (h1 pins s σ H { D with nx := u D } I h) fun f s1 q => ?_)
  cases f with
  | next =>
    obtain ⟨σ', H', I', q⟩ := q
    exact h2 pins s1 σ' H' D I' q
  | ret v => exact q
  | brk => exact q
  | cont => exact q
theorem pss_one (h1 : PS X st t) : PSs X [st] t := by
  intro pins s σ H D I h
  refine wpAny_execs_cons (thn (h1 pins s σ H D I h) fun f s1 q => ?_)
  cases f with
  | next => exact wpAny_execs_nil q
  | ret v => exact q
  | brk => exact q
  | cont => exact q
theorem Inv.quiet {pins : List (Addr × Obj)} {σ : St} {H : Hp} {s : Shared} (I : Inv X pins σ H s) : interactive X.env = false := by simp [interactive, I.ok.kind]
def tDrop (te : TE) : TS := fun D σ H => te σ H fun _ H1 => D.nx σ H1
theorem ps_expr (he : PE X e te) (hs : swapsWith e none pos.line X.env = pure false := by rfl) : PS X (.Expr e pos) (tDrop te) := by
  intro pins s σ H D I h
  exact wpAny_Expr_any (thn (he pins s σ H _ I h) fun v s1 ⟨x, H1, I1, r1, q1⟩ => ⟨σ, H1, I1, q1⟩) I.quiet hs
def tRet (te : TE) : TS := fun D σ H => te σ H D.rt
theorem ps_ret (he : PE X e te) : PS X (.Return (some e) pos) (tRet te) := by
  intro pins s σ H D I h
  exact wpAny_Return_some (thn (he pins s σ H _ I h) fun v s1 ⟨x, H1, I1, r1, q1⟩ => ⟨x, σ, H1, I1, r1, q1⟩)
def tIfS (c : TT) (t u : TS) : TS := fun D σ H => c σ H fun b H1 => if b = true then t D σ H1 else u D σ H1
theorem ps_if {c : Expr} {a b : List Stmt} {tc : TT} (hc : PT X c tc) (ha : PSs X a t) (hb : PSs X b u) : PS X (.If c a b pos) (tIfS tc t u) := by
  intro pins s σ H D I h
  refine wpAny_If (thn (hc pins s σ H _ I h) fun d s1 ⟨H1, I1, q1⟩ => ?_)
  cases d with
  | true => exact ha pins s1 σ H1 D I1 q1
  | false => exact hb pins s1 σ H1 D I1 q1
end
abbrev TG := V → St → Hp → (St → Hp → Prop) → Prop
abbrev TGs := List V → St → Hp → (St → Hp → Prop) → Prop
def PG (X : Cx) (target : Expr) (t : TG) : Prop :=
  ∀ (pins : List (Addr × Obj)) (s : Shared) (σ : St) (H : Hp) (v : V) (u : Value) (Q : St → Hp → Prop), Inv X pins σ H s → RelV v u → t v σ H Q →
    wpAny (model X.prog X.w) X.A (assign target X.env u) (fun _ s' => ∃ σ' H', Inv X pins σ' H' s' ∧ Q σ' H') X.xe s
def PGs (X : Cx) (ts : List Expr) (t : TGs) : Prop :=
  ∀ (pins : List (Addr × Obj)) (s : Shared) (σ : St) (H : Hp) (vs : List V) (us : List Value) (Q : St → Hp → Prop), Inv X pins σ H s → Vals vs us → t vs σ H Q →
    wpAny (model X.prog X.w) X.A (assignInOrder ((assignEach ts X.env).map (·.2)) us) (fun _ s' => ∃ σ' H', Inv X pins σ' H' s' ∧ Q σ' H') X.xe s
section
variable {X : Cx} {pos : Pos}
def gName (i : Nat) : TG := fun v σ H Q => Q (σ.set i (some v)) H
theorem pg_name {i : Nat} {x : Str} (hN : X.N.Nodup) (hi : X.N[i]? = some x) (hx : Loc X.env.scope x) (hf : X.fn x = true ∨ X.env.scope.names.lookup x = some .local := by first | exact .inl rfl | exact .inr rfl | assumption) : PG X (.Name x pos) (gName i) := by
  intro pins s σ H v u Q I r h
  exact wpAny_assign_Name (store_ok I hN hi hx r (fun s' I' => ⟨_, H, I', h⟩) hf)
def gNil : TGs := fun vs σ H Q => vs = [] ∧ Q σ H
def gCons (t : TG) (u : TGs) : TGs := fun vs σ H Q => ∃ v r, vs = v :: r ∧ t v σ H fun σ' H' => u r σ' H' Q
theorem pgs_nil : PGs X [] gNil := by
  intro pins s σ H vs us Q I r h
  obtain ⟨e, h⟩ := h
  subst e
  cases r
  exact assignInOrder_nil ⟨σ, H, I, h⟩
theorem pgs_cons {e : Expr} {es : List Expr} {t : TG} {u : TGs} (h1 : PG X e t) (h2 : PGs X es u)
    (hs : (assignEach (e :: es) X.env).map (·.2) = assign e X.env :: (assignEach es X.env).map (·.2) := by rfl) : PGs X (e :: es) (gCons t u) := by
  intro pins s σ H vs us Q I r h
  obtain ⟨v, vr, e1, h⟩ := h
  subst e1
  cases r with
  | cons r rr =>
    rw [hs]
    refine assignInOrder_cons (thn (h1 pins s σ H _ _ _ I r h) fun _ s1 ⟨σ1, H1, I1, q1⟩ => ?_)
    exact h2 pins s1 σ1 H1 _ _ Q I1 rr q1
def gTup (K : PySem.W.Frag) (n : Nat) (t : TGs) : TG := fun v σ H Q => ∃ a xs, v = .ref a ∧ SqT K H a xs ∧ xs.length = n ∧ t xs σ H Q
theorem pg_tup {es : List Expr} {k : Nat} {t : TGs} {n : Nat} (hc : X.calm = true) (h : PGs X es t)
    (hn : (assignEach es X.env).length = n := by rfl) (hst : (assignEach es X.env).findIdx? (·.1) = none := by rfl) : PG X (.Tuple es k pos) (gTup X.K n t) := by
  intro pins s σ H v u Q I r hw
  obtain ⟨a, xs, e1, hq, hl, hw⟩ := hw
  subst e1
  cases r
  obtain ⟨its, rv, ht, hz⟩ := I.tuple hq
  refine assign_Tuple_tuple (I.ok.hd hc) ht (by simp [hn, ← hl, rv.length]) hst fun h' hx => ?_
  have I1 : Inv X pins σ H { s with heap := h' } := I.kept (t' := s.toks) fun b o e => hx b o (Nat.ne_of_lt (Heap.lt_size e)) e
  exact h pins _ σ H xs _ Q I1 (by simpa using rv) hw
def tAsg (te : TE) (g : TG) : TS := fun D σ H => te σ H fun x H1 => g x σ H1 D.nx
theorem ps_asg {tg e : Expr} {te : TE} {g : TG} (he : PE X e te) (hg : PG X tg g) (hs : swapsWithSole [tg] e pos.line X.env = pure false := by rfl) (hw : swappedStores [tg] e X.env = pure none := by rfl)
    (h1 : (assignEach [tg] X.env).map (·.2) = [assign tg X.env] := by rfl) : PS X (.Assign [tg] e pos) (tAsg te g) := by
  intro pins s σ H D I h
  refine wpAny_Assign_stores (thn (he pins s σ H _ I h) fun v s1 ⟨x, H1, I1, r1, q1⟩ => ?_) hs hw
  rw [h1]
  exact thn (hg pins s1 σ H1 x v _ I1 r1 q1) fun _ s2 q => q
theorem ps_set {i : Nat} {x : Str} {e : Expr} {te : TE} {pos' : Pos} (hN : X.N.Nodup) (hi : X.N[i]? = some x) (hx : Loc X.env.scope x) (he : PE X e te) (hs : swapsWith e (some (.Name x pos')) pos.line X.env = pure false := by rfl) (hf : X.fn x = true ∨ X.env.scope.names.lookup x = some .local := by first | exact .inl rfl | exact .inr rfl | assumption) :
    PS X (.Assign [.Name x pos'] e pos) (tAsg te (gName i)) := by
  intro pins s σ H D I h
  refine wpAny_Assign_Name (thn (he pins s σ H _ I h) fun v s1 ⟨y, H1, I1, r1, q1⟩ => ?_) hs
  exact store_ok I1 hN hi hx r1 (fun s2 I2 => ⟨_, H1, I2, q1⟩) hf
end
section
variable {X : Cx} {pos : Pos}
def tWhile (c : TT) (tb : TS) : TS := fun D σ H => ∃ W : Nat → St → Hp → Prop, (∃ m, W m σ H) ∧ ∀ m σ H, W m σ H →
  c σ H fun b H1 => if b = true then ∃ N : St → Hp → Prop, (∀ σ' H', N σ' H' → ∃ m', m' < m ∧ W m' σ' H') ∧ tb { D with nx := N, ct := N, bk := D.nx } σ H1 else D.nx σ H1
theorem ps_while {c : Expr} {body : List Stmt} {tc : TT} {tb : TS} (hp : PassesOwn (model X.prog X.w) X.A X.env X.xe) (hc : PT X c tc) (hb : PSs X body tb) : PS X (.While c body [] pos) (tWhile tc tb) := by
  intro pins s σ H D I h
  obtain ⟨W, ⟨m0, w0⟩, turn⟩ := h
  refine wpAny_While (codeAny_whileLoop (fun n s' => ∃ σ' H', Inv X pins σ' H' s' ∧ W n σ' H') ?_ m0 ⟨σ, H, I, w0⟩)
  rintro n s1 ⟨σ1, H1, I1, w1⟩
  refine wpAny_passesOwn hp (thn (hc pins s1 σ1 H1 _ I1 (turn n σ1 H1 w1)) fun b s2 ⟨H2, I2, q2⟩ => ?_)
  cases b with
  | true =>
    obtain ⟨N, hN, q2⟩ := q2
    rw [if_pos rfl]
    refine wpAny_passesOwn hp (thn (hb pins s2 σ1 H2 _ I2 q2) fun f s3 q3 => ?_)
    cases f with
    | next =>
      obtain ⟨σ3, H3, I3, n3⟩ := q3
      obtain ⟨m', hm, w3⟩ := hN σ3 H3 n3
      exact ⟨m', hm, σ3, H3, I3, w3⟩
    | cont =>
      obtain ⟨σ3, H3, I3, n3⟩ := q3
      obtain ⟨m', hm, w3⟩ := hN σ3 H3 n3
      exact ⟨m', hm, σ3, H3, I3, w3⟩
    | brk => exact q3
    | ret v => exact q3
  | false =>
    rw [if_neg Bool.false_ne_true]
    exact wpAny_execs_nil ⟨σ1, H2, I2, q2⟩
end
structure It where
  go : Nat → Hp → Prop
  yld : Nat → Hp → V → Hp → Prop
  stop : Nat → Hp → Prop
def FpOk (X : Cx) (pins : List (Addr × Obj)) (H : Hp) (b : Addr) : Prop :=
  H b = none ∧ b ≠ X.env.locals ∧ b ∉ X.fs ∧ (b ∈ X.ex ∨ X.s₀.heap.objs.size ≤ b) ∧ (∀ x c, X.env.cells.lookup x = some c → c ≠ b) ∧ ∀ p ∈ X.pn ++ pins, p.1 ≠ b
theorem Inv.fpOk {X : Cx} {pins : List (Addr × Obj)} {σ : St} {H H' : Hp} {s : Shared} {b : Addr} (I : Inv X pins σ H s) (hb : s.heap.objs.size ≤ b) (hn : H' b = none) : FpOk X pins H' b := by
  refine ⟨hn, Nat.ne_of_gt (Nat.lt_of_lt_of_le I.lt hb), I.nofs hb, .inr (Nat.le_trans I.sz hb), fun x c e z => ?_, fun p hp z => ?_⟩
  · obtain ⟨v, q⟩ := I.cell x c e
    exact absurd (Nat.lt_of_lt_of_le q.lt (by rw [z]; exact hb)) (Nat.lt_irrefl _)
  · exact absurd (Nat.lt_of_lt_of_le (Heap.lt_size (I.pin p hp).1) (by rw [z]; exact hb)) (Nat.lt_irrefl _)
structure Turn (P : Program) (w : World) (K : PySem.W.Frag) (tg : Expr) (J : It) (fp : List Addr) (it : Addr) (tn : Nat → Heap → Prop) : Prop where
  mem : it ∈ fp
  obj : ∀ i h, tn i h → ∀ b ∈ fp, ∃ o, h.get? b = some o ∧ ∀ v, o.data ≠ .cell v
  keep : ∀ i h h', tn i h → (∀ b ∈ fp, ∀ o, h.get? b = some o → h'.get? b = some o) → tn i h'
  item : ∀ (X : Cx), X.prog = P → X.w = w → X.K = K → X.calm = true → ∀ (i : Nat) (pins : List (Addr × Obj)) (s : Shared) (σ : St) (H : Hp) (E : Value → Shared → Prop), Inv X pins σ H s → (∀ b ∈ fp, FpOk X pins H b) → tn i s.heap → J.go i H →
    wpAny (model P w) X.A (pyNext (.ref it)) (fun r s1 => ∃ u, r = some u ∧
      wpAny (model P w) X.A (letOwnedTupleGo tg (.ref it) u) (fun _ s2 => ∃ x H', Inv X pins σ H' s2 ∧ RelV x u ∧ J.yld i H x H' ∧ tn (i + 1) s2.heap ∧ ∀ b ∈ fp, H' b = none) E s1) E s
  done : ∀ (X : Cx), X.prog = P → X.w = w → X.K = K → X.calm = true → ∀ (i : Nat) (pins : List (Addr × Obj)) (s : Shared) (σ : St) (H : Hp) (E : Value → Shared → Prop), Inv X pins σ H s → (∀ b ∈ fp, FpOk X pins H b) → tn i s.heap → J.stop i H →
    wpAny (model P w) X.A (pyNext (.ref it)) (fun r s1 => r = none ∧ Inv X pins σ H s1) E s
  self : ∀ (A : Around) (i : Nat) (s : Shared) (Q : Value → Shared → Prop) (E : Value → Shared → Prop), tn i s.heap → Q (.ref it) s → wpAny (model P w) A (pyIter (.ref it)) Q E s
abbrev TI := St → Hp → (It → Hp → Prop) → Prop
def PIE (X : Cx) (pins : List (Addr × Obj)) (σ : St) (tg : Expr) (R : It → Hp → Prop) (itv : Value) (s2 : Shared) : Prop :=
  ∃ (it : Addr) (fp : List Addr) (tn : Nat → Heap → Prop) (J : It) (H' : Hp), itv = .ref it ∧ Inv X pins σ H' s2 ∧ Turn X.prog X.w X.K tg J fp it tn ∧ tn 0 s2.heap ∧ (∀ b ∈ fp, FpOk X pins H' b) ∧ R J H'
def PI (X : Cx) (tg iter : Expr) (wi : TI) : Prop :=
  ∀ (pins : List (Addr × Obj)) (s : Shared) (σ : St) (H : Hp) (R : It → Hp → Prop), Inv X pins σ H s → wi σ H R →
    wpAny (model X.prog X.w) X.A (eval iter X.env) (fun v s1 => wpAny (model X.prog X.w) X.A (pyIter v) (PIE X pins σ tg R) X.xe s1) X.xe s

theorem go_of {M : Model} {A : Around} {E : Value → Shared → Prop} {s : Shared} {tg : Expr} {it : Addr} {u : Value} {o : Obj} {n : String} {vs : Array Value} {Q : Unit → Shared → Prop} (ho : s.heap.get? it = some o) (hc : o.cls = .type n) (hd : o.data = .fields vs)
    (hn : ["enumerate", "zip", "dict_itemiterator", "dict_reverseitemiterator", "odict_iterator", "itertools.zip_longest", "itertools.pairwise"].contains n = false) (hQ : Q () s) : wpAny M A (letOwnedTupleGo tg (.ref it) u) Q E s := by
  unfold letOwnedTupleGo
  cases tg <;> first
    | exact wpAny_pure hQ
    | (cases u <;> first
        | exact wpAny_pure hQ
        | (refine wpAny_bind (wpAny_load ho ?_)
           rw [hc, hd]
           show wpAny M A (if (["enumerate", "zip", "dict_itemiterator", "dict_reverseitemiterator", "odict_iterator", "itertools.zip_longest", "itertools.pairwise"].contains n && vs[0]? == some (rawInt _)) = true then _ else _) Q E s
           rw [if_neg (by intro h; rw [hn, Bool.false_and] at h; cases h)]
           exact wpAny_pure hQ))

def Itl (K : PySem.W.Frag) (a : Addr) : It :=
  ⟨fun i H => ∃ xs x, SqL K H a xs ∧ xs[i]? = some x, fun i H x H' => H' = H ∧ ∀ xs, SqL K H a xs → xs[i]? = some x, fun i H => ∃ xs, SqL K H a xs ∧ xs.length ≤ i⟩
def Itt (K : PySem.W.Frag) (a : Addr) : It :=
  ⟨fun i H => ∃ xs x, SqT K H a xs ∧ xs[i]? = some x, fun i H x H' => H' = H ∧ ∀ xs, SqT K H a xs → xs[i]? = some x, fun i H => ∃ xs, SqT K H a xs ∧ xs.length ≤ i⟩
def Itr (lo : Int) (n : Nat) : It := ⟨fun i _ => i < n, fun i H x H' => H' = H ∧ x = .int (lo + i), fun i _ => n ≤ i⟩
theorem turn_list {P : Program} {w : World} {K : PySem.W.Frag} {tg : Expr} (a it : Addr) : Turn P w K tg (Itl K a) [it] it (fun i h => h.IsListIter it a i) where
  mem := by simp
  obj := fun i h st b hb => by
    have e : b = it := by simpa using hb
    subst e
    obtain ⟨o, e, c, d⟩ := st
    exact ⟨o, e, fun v z => by rw [d] at z; cases z⟩
  keep := fun i h h' st k => st.at fun o e => k it (by simp) o e
  item := by
    intro X hP hw hK hc i pins s σ H E I hf st hg
    subst hP hw hK
    obtain ⟨xs, x, hq, hx⟩ := hg
    obtain ⟨its, rv, p, hz⟩ := I.list hq
    obtain ⟨u, hu, ru⟩ := rv.get hx
    obtain ⟨f0, f1, f2, f3, f4, f5⟩ := hf it (by simp)
    refine wpAny_pyNext_list_item st p.isList (x := u) (by simpa using hu) fun h' st' sb => ?_
    have I1 : Inv X pins σ H { s with heap := h' } := I.turned (t' := s.toks) (fun b o hb e => (sb.2 b hb).trans e) f0 f1 f3 f4 f5
    obtain ⟨o, e, c, d⟩ := id st'
    exact ⟨u, rfl, go_of (s := { s with heap := h' }) e c d (by decide) ⟨x, H, I1, ru, ⟨rfl, fun ys hy => by rw [I.list_inj hy hq]; exact hx⟩, st', fun b hb => (hf b hb).1⟩⟩
  done := by
    intro X hP hw hK hc i pins s σ H E I hf st hg
    subst hP hw hK
    obtain ⟨xs, hq, hx⟩ := hg
    obtain ⟨its, rv, p, hz⟩ := I.list hq
    obtain ⟨f0, f1, f2, f3, f4, f5⟩ := hf it (by simp)
    have hl := rv.length
    exact wpAny_pyNext_list_end (I.ok.hd hc) st p.isList (by simp; omega) fun h' eb => ⟨rfl, I.turned (t' := s.toks) (fun b o hb e => eb b o hb e) f0 f1 f3 f4 f5⟩
  self := fun _ _ _ _ _ st h => wpAny_pyIter_listiter st h
theorem turn_tuple {P : Program} {w : World} {K : PySem.W.Frag} {tg : Expr} (a it : Addr) : Turn P w K tg (Itt K a) [it] it (fun i h => h.IsTupleIter it a i) where
  mem := by simp
  obj := fun i h st b hb => by
    have e : b = it := by simpa using hb
    subst e
    obtain ⟨o, e, c, d⟩ := st
    exact ⟨o, e, fun v z => by rw [d] at z; cases z⟩
  keep := fun i h h' st k => st.at fun o e => k it (by simp) o e
  item := by
    intro X hP hw hK hc i pins s σ H E I hf st hg
    subst hP hw hK
    obtain ⟨xs, x, hq, hx⟩ := hg
    obtain ⟨its, rv, p, hz⟩ := I.tuple hq
    obtain ⟨u, hu, ru⟩ := rv.get hx
    obtain ⟨f0, f1, f2, f3, f4, f5⟩ := hf it (by simp)
    refine wpAny_pyNext_tuple_item st (show s.heap.IsTuple a its.toArray from p) (x := u) (by simpa using hu) fun h' st' sb => ?_
    have I1 : Inv X pins σ H { s with heap := h' } := I.turned (t' := s.toks) (fun b o hb e => (sb.2 b hb).trans e) f0 f1 f3 f4 f5
    obtain ⟨o, e, c, d⟩ := id st'
    exact ⟨u, rfl, go_of (s := { s with heap := h' }) e c d (by decide) ⟨x, H, I1, ru, ⟨rfl, fun ys hy => by rw [I.tuple_inj hy hq]; exact hx⟩, st', fun b hb => (hf b hb).1⟩⟩
  done := by
    intro X hP hw hK hc i pins s σ H E I hf st hg
    subst hP hw hK
    obtain ⟨xs, hq, hx⟩ := hg
    obtain ⟨its, rv, p, hz⟩ := I.tuple hq
    obtain ⟨f0, f1, f2, f3, f4, f5⟩ := hf it (by simp)
    have hl := rv.length
    exact wpAny_pyNext_tuple_end (I.ok.hd hc) st (show s.heap.IsTuple a its.toArray from p) (by simp; omega) fun h' eb => ⟨rfl, I.turned (t' := s.toks) (fun b o hb e => eb b o hb e) f0 f1 f3 f4 f5⟩
  self := fun _ _ _ _ _ st h => wpAny_pyIter_tupleiter st h
theorem turn_range {P : Program} {w : World} {K : PySem.W.Frag} {tg : Expr} (it : Addr) (lo : Int) (n : Nat) : Turn P w K tg (Itr lo n) [it] it (fun i h => IsRangeIter h it (lo + (i : Nat) * 1) ((n : Int) - (i : Nat)) 1) where
  mem := by simp
  obj := fun i h st b hb => by
    have e : b = it := by simpa using hb
    subst e
    exact ⟨_, st, fun v z => by
      have z' : Data.fields _ = Data.cell v := z
      cases z'⟩
  keep := fun i h h' st k => k it (by simp) _ st
  item := by
    intro X hP hw hK hc i pins s σ H E I hf st hg
    subst hP hw hK
    obtain ⟨f0, f1, f2, f3, f4, f5⟩ := hf it (by simp)
    have W := Walks.range (prog := X.prog) (w := X.w) (I.ok.hd hc) it lo 1 n
    refine W.item i s _ _ hg st fun v h' tk hv st' kk => ?_
    obtain ⟨t, rfl⟩ := hv
    have I1 : Inv X pins σ H { s with heap := h', toks := tk } := I.turned (fun b o hb e => kk b o (by simpa using hb) e) f0 f1 f3 f4 f5
    refine ⟨_, rfl, go_of (s := { s with heap := h', toks := tk }) (n := "range_iterator") st' rfl rfl (by decide) ⟨.int (lo + i), H, I1, ⟨t, ?_⟩, ⟨rfl, rfl⟩, st', fun b hb => (hf b hb).1⟩⟩
    rw [Int.mul_one]
  done := by
    intro X hP hw hK hc i pins s σ H E I hf st hg
    subst hP hw hK
    obtain ⟨f0, f1, f2, f3, f4, f5⟩ := hf it (by simp)
    exact wpAny_pyNext_range_end (I.ok.hd hc) st (by have : n ≤ i := hg; omega) fun h' eb => ⟨rfl, I.turned (t' := s.toks) (fun b o hb e => eb b o hb e) f0 f1 f3 f4 f5⟩
  self := fun _ _ _ _ _ st h => wpAny_pyIter_rangeiter st h
end L2
namespace L2
open PySem PySem.Spec PyProof.Rows
section
variable {X : Cx} {tg : Expr}
def iList (K : PySem.W.Frag) (tl : TE) : TI := fun σ H R => tl σ H fun x H1 => ∃ a, x = .ref a ∧ (∃ xs, SqL K H1 a xs) ∧ R (Itl K a) H1
def iTup (K : PySem.W.Frag) (tl : TE) : TI := fun σ H R => tl σ H fun x H1 => ∃ a, x = .ref a ∧ (∃ xs, SqT K H1 a xs) ∧ R (Itt K a) H1
theorem pi_list {l : Expr} {tl : TE} (hl : PE X l tl) : PI X tg l (iList X.K tl) := by
  intro pins s σ H R I h
  refine thn (hl pins s σ H _ I h) fun v s1 ⟨x, H1, I1, r1, q1⟩ => ?_
  obtain ⟨a, e, ⟨xs, hq⟩, q⟩ := q1
  subst e
  cases r1
  obtain ⟨its, rv, p, hz⟩ := I1.list hq
  refine wpAny_pyIter_list p.isList ?_
  refine ⟨s1.heap.objs.size, [s1.heap.objs.size], _, _, H1, rfl, I1.kept (t' := s1.toks) fun b o e => Heap.get?_push_of_some _ e, turn_list a _, ⟨_, Heap.get?_push_size _ rfl, rfl, rfl⟩, fun b hb => ?_, q⟩
  have e : b = s1.heap.objs.size := by simpa using hb
  subst e
  exact I1.fpOk (Nat.le_refl _) (I1.hok.fresh (Nat.le_refl _))
theorem pi_tup {l : Expr} {tl : TE} (hl : PE X l tl) : PI X tg l (iTup X.K tl) := by
  intro pins s σ H R I h
  refine thn (hl pins s σ H _ I h) fun v s1 ⟨x, H1, I1, r1, q1⟩ => ?_
  obtain ⟨a, e, ⟨xs, hq⟩, q⟩ := q1
  subst e
  cases r1
  obtain ⟨its, rv, p, hz⟩ := I1.tuple hq
  refine wpAny_pyIter_tuple (show s1.heap.IsTuple a its.toArray from p) ?_
  refine ⟨s1.heap.objs.size, [s1.heap.objs.size], _, _, H1, rfl, I1.kept (t' := s1.toks) fun b o e => Heap.get?_push_of_some _ e, turn_tuple a _, ⟨_, Heap.get?_push_size _ rfl, rfl, rfl⟩, fun b hb => ?_, q⟩
  have e : b = s1.heap.objs.size := by simpa using hb
  subst e
  exact I1.fpOk (Nat.le_refl _) (I1.hok.fresh (Nat.le_refl _))
theorem range_it {pins : List (Addr × Obj)} {σ : St} {H : Hp} {s : Shared} {R : It → Hp → Prop} {E : Value → Shared → Prop} {lo hi : Int} {t u v : Tok} {tk : Nat} (I : Inv X pins σ H s) (h1 : -(2 ^ 62) ≤ lo) (h2 : lo < 2 ^ 62) (h3 : -(2 ^ 62) ≤ hi) (h4 : hi < 2 ^ 62)
    (q : R (Itr lo (hi - lo).toNat) H) : wpAny (model X.prog X.w) X.A (pyIter (.ref s.heap.objs.size)) (PIE X pins σ tg R) E { s with heap := s.heap.push { cls := .type "range", data := .fields #[.int lo t, .int hi u, .int 1 v] }, toks := tk } := by
  refine wpAny_pyIter_range (IsRange.new ..) (small_one h1 h2 h3 h4) ?_
  have I1 : Inv X pins σ H { s with heap := s.heap.push { cls := .type "range", data := .fields #[.int lo t, .int hi u, .int 1 v] }, toks := tk } := I.kept fun b o e => Heap.get?_push_of_some _ e
  refine ⟨(s.heap.push { cls := .type "range", data := .fields #[.int lo t, .int hi u, .int 1 v] }).objs.size, [(s.heap.push { cls := .type "range", data := .fields #[.int lo t, .int hi u, .int 1 v] }).objs.size], _, _, H, rfl,
    I1.kept (t' := tk) fun b o e => Heap.get?_push_of_some _ e, turn_range _ lo (hi - lo).toNat, ?_, fun b hb => ?_, q⟩
  · have e1 : lo + ((0 : Nat) : Int) * 1 = lo := by simp
    have e2 : (((hi - lo).toNat : Nat) : Int) - ((0 : Nat) : Int) = Builtin.Range.rangeSize lo hi 1 := by rw [rangeSize_one]; split <;> omega
    show IsRangeIter _ _ (lo + ((0 : Nat) : Int) * 1) ((((hi - lo).toNat : Nat) : Int) - ((0 : Nat) : Int)) 1
    rw [e1, e2]
    exact Heap.get?_push_size _ rfl
  · have e : b = (s.heap.push { cls := .type "range", data := .fields #[.int lo t, .int hi u, .int 1 v] }).objs.size := by simpa using hb
    subst e
    exact I1.fpOk (Nat.le_refl _) (I1.hok.fresh (Nat.le_refl _))
def iRng1 (ta : TA) : TI := fun σ H R => ta σ H fun vs H1 => ∃ j : Int, vs = [.int j] ∧ -(2 ^ 62) ≤ j ∧ j < 2 ^ 62 ∧ R (Itr 0 j.toNat) H1
theorem pi_range1 {a : Expr} {ta : TA} {p pos : Pos} (hg : Gl X "range") (hm : X.mg "range" = none) (ha : PA X [a] ta) (hs : starEach [a] X.env = [(false, eval a X.env)] := by rfl) : PI X tg (.Call (.Name "range" p) [a] [] pos) (iRng1 ta) := by
  intro pins s σ H R I h
  refine Call_ (ld_blt I hg hm boot_range (PyProof.Rows.callWith_type1 (thn (ha pos pins s σ H _ I h) fun us s1 ⟨vs, H1, I1, r1, q1⟩ => ?_) hs rfl))
  obtain ⟨j, e, q1, q2, q⟩ := q1
  subst e
  cases r1 with
  | cons r rr =>
    cases rr
    obtain ⟨t, rfl⟩ := r
    exact call_range_1 (range_it I1 (by omega) (by omega) q1 q2 (by simpa using q))
def tFor (wi : TI) (g : TG) (tb : TS) : TS := fun D σ H => wi σ H fun J H1 => ∃ W : Nat → Nat → St → Hp → Prop, (∃ m, W 0 m σ H1) ∧ ∀ i m σ H, W i m σ H →
  (J.stop i H ∧ D.nx σ H) ∨ (J.go i H ∧ ∃ N : St → Hp → Prop, (∀ σ' H', N σ' H' → ∃ m', m' < m ∧ W (i + 1) m' σ' H') ∧ ∀ x H', J.yld i H x H' → g x σ H' fun σ2 H2 => tb { D with nx := N, ct := N, bk := D.nx } σ2 H2)
def pinsAt (fp : List Addr) (h : Heap) : List (Addr × Obj) := fp.filterMap fun b => (h.get? b).map fun o => (b, o)
theorem mem_pinsAt {fp : List Addr} {h : Heap} {b : Addr} {o : Obj} (hb : b ∈ fp) (e : h.get? b = some o) : (b, o) ∈ pinsAt fp h := List.mem_filterMap.mpr ⟨b, hb, by rw [e]; rfl⟩
theorem of_pinsAt {fp : List Addr} {h : Heap} {p : Addr × Obj} (hp : p ∈ pinsAt fp h) : p.1 ∈ fp ∧ h.get? p.1 = some p.2 := by
  obtain ⟨b, hb, e⟩ := List.mem_filterMap.mp hp
  cases q : h.get? b with
  | none => rw [q] at e; cases e
  | some o =>
    rw [q] at e
    have e' : (b, o) = p := Option.some.inj e
    subst e'
    exact ⟨hb, q⟩
theorem Inv.pinned {pins : List (Addr × Obj)} {σ : St} {H : Hp} {s : Shared} {fp : List Addr} (I : Inv X pins σ H s) (hf : ∀ b ∈ fp, FpOk X pins H b) (ho : ∀ b ∈ fp, ∃ o, s.heap.get? b = some o ∧ ∀ v, o.data ≠ .cell v) : Inv X (pins ++ pinsAt fp s.heap) σ H s :=
  I.pins_of fun p hp => (List.mem_append.mp hp).elim (fun z => I.pin p (List.mem_append_right _ z)) fun z => by
    obtain ⟨hb, e⟩ := of_pinsAt z
    obtain ⟨f0, f1, f2, _⟩ := hf p.1 hb
    obtain ⟨o, e', d⟩ := ho p.1 hb
    rw [e] at e'; cases e'
    exact ⟨e, f0, f1, f2, d⟩
theorem Inv.unpinned {pins pl : List (Addr × Obj)} {σ : St} {H : Hp} {s : Shared} (I : Inv X (pins ++ pl) σ H s) : Inv X pins σ H s := I.pins_of fun p hp => I.pin p (List.mem_append_right _ (List.mem_append_left _ hp))
theorem ps_for {iter : Expr} {body : List Stmt} {wi : TI} {g : TG} {tb : TS} {pos : Pos} (hp : PassesOwn (model X.prog X.w) X.A X.env X.xe) (hc : X.calm = true) (hi : PI X tg iter wi) (hg : PG X tg g) (hb : PSs X body tb)
    (hs : ∀ x, foldedSetIterable iter X.env x = pure x := by intro _; rfl) : PS X (.For tg iter body [] pos) (tFor wi g tb) := by
  intro pins s σ H D I h
  refine wpAny_For (thn (hi pins s σ H _ I h) fun v s1 h1 => thn h1 fun itv s2 h2 => ?_) hs
  obtain ⟨it, fp, tn, J, H2, e, I2, T, st2, f2, W, ⟨m0, w0⟩, turn⟩ := h2
  subst e
  have stat : ∀ {H' : Hp}, (∀ b ∈ fp, H' b = none) → ∀ b ∈ fp, FpOk X pins H' b := fun hn b hb => ⟨hn b hb, (f2 b hb).2⟩
  refine codeAny_forLoop_any (fun n s' => ∃ i σ' H', Inv X pins σ' H' s' ∧ tn i s'.heap ∧ (∀ b ∈ fp, H' b = none) ∧ W i n σ' H') ?_ m0 ⟨0, σ, H2, I2, st2, fun b hb => (f2 b hb).1, w0⟩
  rintro n s3 ⟨i, σ3, H3, I3, st3, fr3, w3⟩
  rcases turn i n σ3 H3 w3 with ⟨stop, qn⟩ | ⟨go, N, hN, step⟩
  · refine wpAny_passesOwn hp (thn (T.done X rfl rfl rfl hc i pins s3 σ3 H3 X.xe I3 (stat fr3) st3 stop) fun r s4 ⟨hr, I4⟩ => ?_)
    subst hr
    exact wpAny_execs_nil ⟨σ3, H3, I4, qn⟩
  · refine wpAny_passesOwn hp (thn (T.item X rfl rfl rfl hc i pins s3 σ3 H3 X.xe I3 (stat fr3) st3 go) fun r s4 ⟨u, hr, h4⟩ => ?_)
    subst hr
    refine wpAny_passesOwn hp (thn h4 fun _ s5 ⟨x, H5, I5, r5, y5, st5, fr5⟩ => ?_)
    have I5' := I5.pinned (stat fr5) (T.obj _ _ st5)
    refine wpAny_passesOwn hp (thn (hg _ s5 σ3 H5 x u _ I5' r5 (step x H5 y5)) fun _ s6 ⟨σ6, H6, I6, q6⟩ => ?_)
    refine wpAny_passesOwn hp (thn (hb _ s6 σ6 H6 _ I6 q6) fun f s7 q7 => ?_)
    have again : ∀ {σ7 : St} {H7 : Hp}, Inv X (pins ++ pinsAt fp s5.heap) σ7 H7 s7 → N σ7 H7 → ∃ m, m < n ∧ ∃ i σ' H', Inv X pins σ' H' s7 ∧ tn i s7.heap ∧ (∀ b ∈ fp, H' b = none) ∧ W i m σ' H' := fun {σ7 H7} I7 n7 => by
      obtain ⟨m', hm, w7⟩ := hN σ7 H7 n7
      refine ⟨m', hm, i + 1, σ7, H7, I7.unpinned, T.keep _ _ _ st5 fun b hb o e => (I7.pin (b, o) (List.mem_append_right _ (List.mem_append_right _ (mem_pinsAt hb e)))).1, fun b hb => ?_, w7⟩
      obtain ⟨o, e, d⟩ := T.obj _ _ st5 b hb
      exact (I7.pin (b, o) (List.mem_append_right _ (List.mem_append_right _ (mem_pinsAt hb e)))).2.1
    cases f with
    | next => obtain ⟨σ7, H7, I7, n7⟩ := q7; exact again I7 n7
    | cont => obtain ⟨σ7, H7, I7, n7⟩ := q7; exact again I7 n7
    | brk => obtain ⟨σ7, H7, I7, q7⟩ := q7; exact ⟨σ7, H7, I7.unpinned, q7⟩
    | ret v => obtain ⟨x7, σ7, H7, I7, r7, q7⟩ := q7; exact ⟨x7, σ7, H7, I7.unpinned, r7, q7⟩
end
theorem for_list {K : PySem.W.Frag} {a : Addr} {xs : List V} {g : TG} {tb : TS} {D : Ends} {σ : St} {H : Hp} (Pv : Nat → St → Hp → Prop) (h0 : Pv 0 σ H) (hl : ∀ i σ H, i ≤ xs.length → Pv i σ H → SqL K H a xs)
    (hs : ∀ i x σ H, xs[i]? = some x → Pv i σ H → g x σ H fun σ2 H2 => tb { D with nx := Pv (i + 1), ct := Pv (i + 1), bk := D.nx } σ2 H2) (hd : ∀ σ H, Pv xs.length σ H → D.nx σ H) :
    ∃ W : Nat → Nat → St → Hp → Prop, (∃ m, W 0 m σ H) ∧ ∀ i m σ H, W i m σ H →
      ((Itl K a).stop i H ∧ D.nx σ H) ∨ ((Itl K a).go i H ∧ ∃ N : St → Hp → Prop, (∀ σ' H', N σ' H' → ∃ m', m' < m ∧ W (i + 1) m' σ' H') ∧ ∀ x H', (Itl K a).yld i H x H' → g x σ H' fun σ2 H2 => tb { D with nx := N, ct := N, bk := D.nx } σ2 H2) := by
  refine ⟨fun i m σ H => m = xs.length - i ∧ i ≤ xs.length ∧ Pv i σ H, ⟨xs.length, by simp, Nat.zero_le _, h0⟩, ?_⟩
  rintro i m σ H ⟨rfl, hi, p⟩
  have q := hl i σ H hi p
  by_cases hlt : i < xs.length
  · refine .inr ⟨⟨xs, xs[i], q, by simp [hlt]⟩, Pv (i + 1), fun σ' H' p' => ⟨xs.length - (i + 1), by omega, rfl, hlt, p'⟩, fun x H' y => ?_⟩
    obtain ⟨e, y⟩ := y
    subst e
    exact hs i x σ _ (y xs q) p
  · have e : i = xs.length := by omega
    subst e
    exact .inl ⟨⟨xs, q, Nat.le_refl _⟩, hd σ H p⟩
theorem for_tup {K : PySem.W.Frag} {a : Addr} {xs : List V} {g : TG} {tb : TS} {D : Ends} {σ : St} {H : Hp} (Pv : Nat → St → Hp → Prop) (h0 : Pv 0 σ H) (hl : ∀ i σ H, i ≤ xs.length → Pv i σ H → SqT K H a xs)
    (hs : ∀ i x σ H, xs[i]? = some x → Pv i σ H → g x σ H fun σ2 H2 => tb { D with nx := Pv (i + 1), ct := Pv (i + 1), bk := D.nx } σ2 H2) (hd : ∀ σ H, Pv xs.length σ H → D.nx σ H) :
    ∃ W : Nat → Nat → St → Hp → Prop, (∃ m, W 0 m σ H) ∧ ∀ i m σ H, W i m σ H →
      ((Itt K a).stop i H ∧ D.nx σ H) ∨ ((Itt K a).go i H ∧ ∃ N : St → Hp → Prop, (∀ σ' H', N σ' H' → ∃ m', m' < m ∧ W (i + 1) m' σ' H') ∧ ∀ x H', (Itt K a).yld i H x H' → g x σ H' fun σ2 H2 => tb { D with nx := N, ct := N, bk := D.nx } σ2 H2) := by
  refine ⟨fun i m σ H => m = xs.length - i ∧ i ≤ xs.length ∧ Pv i σ H, ⟨xs.length, by simp, Nat.zero_le _, h0⟩, ?_⟩
  rintro i m σ H ⟨rfl, hi, p⟩
  have q := hl i σ H hi p
  by_cases hlt : i < xs.length
  · refine .inr ⟨⟨xs, xs[i], q, by simp [hlt]⟩, Pv (i + 1), fun σ' H' p' => ⟨xs.length - (i + 1), by omega, rfl, hlt, p'⟩, fun x H' y => ?_⟩
    obtain ⟨e, y⟩ := y
    subst e
    exact hs i x σ _ (y xs q) p
  · have e : i = xs.length := by omega
    subst e
    exact .inl ⟨⟨xs, q, Nat.le_refl _⟩, hd σ H p⟩
theorem for_range {lo : Int} {n : Nat} {g : TG} {tb : TS} {D : Ends} {σ : St} {H : Hp} (Pv : Nat → St → Hp → Prop) (h0 : Pv 0 σ H)
    (hs : ∀ i σ H, i < n → Pv i σ H → g (.int (lo + i)) σ H fun σ2 H2 => tb { D with nx := Pv (i + 1), ct := Pv (i + 1), bk := D.nx } σ2 H2) (hd : ∀ σ H, Pv n σ H → D.nx σ H) :
    ∃ W : Nat → Nat → St → Hp → Prop, (∃ m, W 0 m σ H) ∧ ∀ i m σ H, W i m σ H →
      ((Itr lo n).stop i H ∧ D.nx σ H) ∨ ((Itr lo n).go i H ∧ ∃ N : St → Hp → Prop, (∀ σ' H', N σ' H' → ∃ m', m' < m ∧ W (i + 1) m' σ' H') ∧ ∀ x H', (Itr lo n).yld i H x H' → g x σ H' fun σ2 H2 => tb { D with nx := N, ct := N, bk := D.nx } σ2 H2) := by
  refine ⟨fun i m σ H => m = n - i ∧ i ≤ n ∧ Pv i σ H, ⟨n, by simp, Nat.zero_le _, h0⟩, ?_⟩
  rintro i m σ H ⟨rfl, hi, p⟩
  by_cases hlt : i < n
  · refine .inr ⟨hlt, Pv (i + 1), fun σ' H' p' => ⟨n - (i + 1), by omega, rfl, hlt, p'⟩, fun x H' y => ?_⟩
    obtain ⟨e, y⟩ := y
    subst e y
    exact hs i σ _ hlt p
  · have e : i = n := by omega
    subst e
    exact .inl ⟨Nat.le_refl _, hd σ H p⟩
theorem while_by {c : TT} {tb : TS} {D : Ends} {σ : St} {H : Hp} (Pv : St → Hp → Prop) (μ : St → Hp → Nat) (h0 : Pv σ H)
    (hs : ∀ σ H, Pv σ H → c σ H fun b H1 => if b = true then tb { D with nx := fun σ' H' => Pv σ' H' ∧ μ σ' H' < μ σ H, ct := fun σ' H' => Pv σ' H' ∧ μ σ' H' < μ σ H, bk := D.nx } σ H1 else D.nx σ H1)
    (mono : ∀ σ H Q Q', (∀ b H1, Q b H1 → Q' b H1) → c σ H Q → c σ H Q') : tWhile c tb D σ H := by
  refine ⟨fun m σ H => m = μ σ H ∧ Pv σ H, ⟨_, rfl, h0⟩, ?_⟩
  rintro m σ H ⟨rfl, p⟩
  refine mono σ H _ _ (fun b H1 q => ?_) (hs σ H p)
  cases b with
  | true => exact ⟨_, fun σ' H' ⟨p', l⟩ => ⟨_, l, rfl, p'⟩, q⟩
  | false => exact q
end L2
namespace L2
open PySem PySem.Spec PyProof.Rows
abbrev R2 := V → V → Hp → VK → Prop
def OpR (X : Cx) (f : Value → Value → Sem Value) (r : R2) : Prop :=
  ∀ (pins : List (Addr × Obj)) (s : Shared) (σ : St) (H : Hp) (x y : V) (v u : Value) (Q : VK), Inv X pins σ H s → RelV x v → RelV y u → r x y H Q →
    wpAny (model X.prog X.w) X.A (f v u) (EP X pins σ Q) X.xe s
def UnR (X : Cx) (f : Value → Sem Value) (r : V → Hp → VK → Prop) : Prop :=
  ∀ (pins : List (Addr × Obj)) (s : Shared) (σ : St) (H : Hp) (x : V) (v : Value) (Q : VK), Inv X pins σ H s → RelV x v → r x H Q →
    wpAny (model X.prog X.w) X.A (f v) (EP X pins σ Q) X.xe s
def CallR (X : Cx) (f : Value) (r : List V → Hp → VK → Prop) : Prop :=
  ∀ (pins : List (Addr × Obj)) (s : Shared) (σ : St) (H : Hp) (xs : List V) (us : List Value) (Q : VK), Inv X pins σ H s → Vals xs us → r xs H Q →
    wpAny (model X.prog X.w) X.A (call f us) (EP X pins σ Q) X.xe s
def tOp (r : R2) (ta tb : TE) : TE := fun σ H Q => ta σ H fun x H1 => tb σ H1 fun y H2 => r x y H2 Q
def tUn (r : V → Hp → VK → Prop) (ta : TE) : TE := fun σ H Q => ta σ H fun x H1 => r x H1 Q
def rI (C : Int → Int → Prop) (g : Int → Int → V) : R2 := fun x y H Q => ∃ i j, x = .int i ∧ y = .int j ∧ C i j ∧ Q (g i j) H
def rI0 (g : Int → Int → V) : R2 := fun x y H Q => ∃ i j, x = .int i ∧ y = .int j ∧ Q (g i j) H
def rU (g : Int → V) : V → Hp → VK → Prop := fun x H Q => ∃ i, x = .int i ∧ Q (g i) H

section
variable {X : Cx} {a b c : Expr} {ta tb tc : TE} {pos : Pos}
theorem binT (ha : PE X a ta) (hb : PE X b tb) {pins : List (Addr × Obj)} {s : Shared} {σ : St} {H : Hp} {R : V → V → Hp → Prop} (I : Inv X pins σ H s)
    (h : ta σ H fun x H1 => tb σ H1 fun y H2 => R x y H2) {Q : Value → Shared → Prop} {f : Value → Value → Sem Value}
    (hf : ∀ v u s2 x y H2, Inv X pins σ H2 s2 → RelV x v → RelV y u → R x y H2 → wpAny (model X.prog X.w) X.A (f v u) Q X.xe s2) :
    wpAny (model X.prog X.w) X.A (eval a X.env) (fun v s₁ => wpAny (model X.prog X.w) X.A (eval b X.env) (fun u s₂ => wpAny (model X.prog X.w) X.A (f v u) Q X.xe s₂) X.xe s₁) X.xe s := by
  refine thn (ha pins s σ H _ I h) fun v s1 ⟨x, H1, I1, r1, q1⟩ => ?_
  refine thn (hb pins s1 σ H1 _ I1 q1) fun u s2 ⟨y, H2, I2, r2, q2⟩ => ?_
  exact hf v u s2 x y H2 I2 r1 r2 q2

theorem pe_op {op : Operator} {r : R2} (ho : OpR X (binaryOp op) r) (ha : PE X a ta) (hb : PE X b tb) : PE X (.BinOp a op b pos) (tOp r ta tb) := by
  intro pins s σ H Q I h
  exact wpAny_BinOp (binT ha hb I h fun v u s2 x y H2 I2 rx ry q => ho pins s2 σ H2 x y v u Q I2 rx ry q)
theorem pe_un {op : UnaryOp} {r : V → Hp → VK → Prop} (ho : UnR X (unaryOp op) r) (ha : PE X a ta) : PE X (.UnaryOp op a pos) (tUn r ta) := by
  intro pins s σ H Q I h
  exact UnaryOp_ (thn (ha pins s σ H _ I h) fun v s1 ⟨x, H1, I1, r1, q1⟩ => ho pins s1 σ H1 x v Q I1 r1 q1)
theorem opI {f : Value → Value → Sem Value} {C : Int → Int → Prop} {g : Int → Int → Int}
    (rule : ∀ (i j : Int) (t u : Tok) (s : Shared) (Q : Value → Shared → Prop) (E : Value → Shared → Prop), C i j → Q (.int (g i j) s.toks) { s with toks := s.toks + 1 } → wpAny (model X.prog X.w) X.A (f (.int i t) (.int j u)) Q E s) :
    OpR X f (rI C fun i j => .int (g i j)) := by
  intro pins s σ H x y v u Q I rx ry h
  obtain ⟨i, j, rfl, rfl, hc, q⟩ := h
  obtain ⟨t, rfl⟩ := rx
  obtain ⟨t', rfl⟩ := ry
  exact rule i j t t' s _ _ hc ⟨.int (g i j), H, I.tok _, ⟨_, rfl⟩, q⟩
theorem opI0 {f : Value → Value → Sem Value} {g : Int → Int → Int}
    (rule : ∀ (i j : Int) (t u : Tok) (s : Shared) (Q : Value → Shared → Prop) (E : Value → Shared → Prop), Q (.int (g i j) s.toks) { s with toks := s.toks + 1 } → wpAny (model X.prog X.w) X.A (f (.int i t) (.int j u)) Q E s) :
    OpR X f (rI0 fun i j => .int (g i j)) := by
  intro pins s σ H x y v u Q I rx ry h
  obtain ⟨i, j, rfl, rfl, q⟩ := h
  obtain ⟨t, rfl⟩ := rx
  obtain ⟨t', rfl⟩ := ry
  exact rule i j t t' s _ _ ⟨.int (g i j), H, I.tok _, ⟨_, rfl⟩, q⟩
theorem opB0 {f : Value → Value → Sem Value} {g : Int → Int → Bool}
    (rule : ∀ (i j : Int) (t u : Tok) (s : Shared) (Q : Value → Shared → Prop) (E : Value → Shared → Prop), Q (.bool (g i j)) s → wpAny (model X.prog X.w) X.A (f (.int i t) (.int j u)) Q E s) :
    OpR X f (rI0 fun i j => .bl (g i j)) := by
  intro pins s σ H x y v u Q I rx ry h
  obtain ⟨i, j, rfl, rfl, q⟩ := h
  obtain ⟨t, rfl⟩ := rx
  obtain ⟨t', rfl⟩ := ry
  exact rule i j t t' s _ _ ⟨.bl (g i j), H, I, rfl, q⟩

def CDiv (i j : Int) : Prop := 0 < j ∧ j < 1073741824
def CMul (i j : Int) : Prop := (-(2 ^ 64) < i ∧ i < 2 ^ 64) ∨ (-(2 ^ 64) < j ∧ j < 2 ^ 64)
theorem CMul.ok {i j : Int} (h : CMul i j) : IntMulOk i j := by
  rcases h with ⟨h1, h2⟩ | ⟨h1, h2⟩
  · exact .of_left (intBits_le_64 h1 h2)
  · exact .of_right (intBits_le_64 h1 h2)
theorem two_pow_nn (k : Nat) : (0 : Int) ≤ 2 ^ k := by
  rw [two_pow_cast]
  exact Int.natCast_nonneg _

theorem op_add : OpR X (binaryOp .Add) (rI0 fun i j => .int (i + j)) := opI0 fun _ _ _ _ _ _ _ q => add_int q
theorem op_sub : OpR X (binaryOp .Sub) (rI0 fun i j => .int (i - j)) := opI0 fun _ _ _ _ _ _ _ q => sub_int q
theorem op_mul : OpR X (binaryOp .Mult) (rI CMul fun i j => .int (i * j)) := opI fun _ _ _ _ _ _ _ hc q => mul_int q hc.ok
theorem op_fdiv : OpR X (binaryOp .FloorDiv) (rI CDiv fun i j => .int (i / j)) := opI fun i j _ _ _ _ _ hc q => by
  have h1 : (0 : Int) < j := hc.1
  have h2 : j < 1073741824 := hc.2
  exact floordiv_int (by omega) (by rw [Int.fdiv_eq_ediv_of_nonneg i (by omega)]; exact q) (.inl (PyProof.noPylong_small (by omega)))
theorem op_mod : OpR X (binaryOp .Mod) (rI (fun _ j => 0 < j) fun i j => .int (i % j)) := opI fun i j _ _ _ _ _ hc q => by
  have h1 : (0 : Int) < j := hc
  exact mod_int' (by omega) (by rw [Int.fmod_eq_emod_of_nonneg i (by omega)]; exact q)
theorem op_shr : OpR X (binaryOp .RShift) (rI (fun _ j => 0 ≤ j) fun i j => .int (i / 2 ^ j.toNat)) := opI fun i j _ _ _ _ _ hc q =>
  rshift_int hc (by rw [Int.fdiv_eq_ediv_of_nonneg i (two_pow_nn _)]; exact q)
theorem unI {f : Value → Sem Value} {g : Int → Int}
    (rule : ∀ (i : Int) (t : Tok) (s : Shared) (Q : Value → Shared → Prop) (E : Value → Shared → Prop), Q (.int (g i) s.toks) { s with toks := s.toks + 1 } → wpAny (model X.prog X.w) X.A (f (.int i t)) Q E s) :
    UnR X f (rU fun i => .int (g i)) := by
  intro pins s σ H x v Q I rx h
  obtain ⟨i, rfl, q⟩ := h
  obtain ⟨t, rfl⟩ := rx
  exact rule i t s _ _ ⟨.int (g i), H, I.tok _, ⟨_, rfl⟩, q⟩
theorem un_neg : UnR X (unaryOp .USub) (rU fun i => .int (-i)) := unI fun _ _ _ _ _ q => neg_int q
end
def scal : V → V → Bool
  | .non, .non => true | .non, .int _ => true | .int _, .non => true | .non, .bl _ => true | .bl _, .non => true | .non, .str _ => true | .str _, .non => true
  | .int _, .int _ => true | .bl _, .bl _ => true | .str _, .str _ => true | .byt _, .byt _ => true
  | .int _, .str _ => true | .str _, .int _ => true | .bl _, .str _ => true | .str _, .bl _ => true
  | _, _ => false
def rEq : R2 := fun x y H Q => scal x y = true ∧ Q (.bl (decide (x = y))) H
theorem dec_int {i j : Int} : decide (V.int i = V.int j) = (i == j) := by
  rw [Bool.eq_iff_iff]
  simp
theorem dec_bl {i j : Bool} : decide (V.bl i = V.bl j) = (i == j) := by
  rw [Bool.eq_iff_iff]
  simp
theorem dec_str {i j : Str} : decide (V.str i = V.str j) = (i == j) := by
  rw [Bool.eq_iff_iff]
  simp
theorem dec_byt {i j : Array UInt8} : decide (V.byt i = V.byt j) = (i.toList == j.toList) := by
  rw [Bool.eq_iff_iff]
  cases i
  cases j
  simp

section
variable {X : Cx} {a b c : Expr} {ta tb tc : TE} {pos : Pos}
theorem fin_bl {pins : List (Addr × Obj)} {σ : St} {H : Hp} {s : Shared} {Q : VK} {k k' : Bool} (I : Inv X pins σ H s) (q : Q (.bl k) H) (e : k = k') : EP X pins σ Q (.bool k') s := by
  subst e
  exact ⟨.bl k, H, I, rfl, q⟩
theorem op_eq : OpR X (compareOp .Eq) rEq := by
  intro pins s σ H x y v u Q I rx ry h
  obtain ⟨hs, q⟩ := h
  cases x with
  | non =>
    cases rx
    cases y with
    | non => cases ry; exact PySem.EqNone.eq_none_none (fin_bl I q (by simp))
    | bl j => cases ry; exact PySem.EqNone.eq_none_bool (fin_bl I q (by simp))
    | int j => obtain ⟨t', rfl⟩ := ry; exact PySem.EqNone.eq_none_int (fin_bl I q (by simp))
    | str j => obtain ⟨t', rfl⟩ := ry; exact PySem.EqNone.eq_none_str (fin_bl I q (by simp))
    | _ => exact absurd (show false = true from hs) Bool.false_ne_true
  | bl i =>
    cases rx
    cases y with
    | non => cases ry; exact PySem.EqNone.eq_bool_none (fin_bl I q (by simp))
    | bl j => cases ry; exact eq_bool (fin_bl I q dec_bl)
    | str j => obtain ⟨t', rfl⟩ := ry; exact PySem.EqMixed.eq_bool_str (fin_bl I q (by simp))
    | _ => exact absurd (show false = true from hs) Bool.false_ne_true
  | int i =>
    obtain ⟨t, rfl⟩ := rx
    cases y with
    | non => cases ry; exact PySem.EqNone.eq_int_none (fin_bl I q (by simp))
    | int j => obtain ⟨t', rfl⟩ := ry; exact eq_int (fin_bl I q dec_int)
    | str j => obtain ⟨t', rfl⟩ := ry; exact PySem.EqMixed.eq_int_str (fin_bl I q (by simp))
    | _ => exact absurd (show false = true from hs) Bool.false_ne_true
  | str i =>
    obtain ⟨t, rfl⟩ := rx
    cases y with
    | non => cases ry; exact PySem.EqNone.eq_str_none (fin_bl I q (by simp))
    | bl j => cases ry; exact PySem.EqMixed.eq_str_bool (fin_bl I q (by simp))
    | int j => obtain ⟨t', rfl⟩ := ry; exact PySem.EqMixed.eq_str_int (fin_bl I q (by simp))
    | str j => obtain ⟨t', rfl⟩ := ry; exact eq_str (fin_bl I q dec_str)
    | _ => exact absurd (show false = true from hs) Bool.false_ne_true
  | byt i =>
    obtain ⟨t, rfl⟩ := rx
    cases y with
    | byt j => obtain ⟨t', rfl⟩ := ry; exact PySem.W.eq_bytes (fin_bl I q dec_byt)
    | _ => exact absurd (show false = true from hs) Bool.false_ne_true
  | _ => cases y <;> exact absurd (show false = true from hs) Bool.false_ne_true
theorem op_lt : OpR X (compareOp .Lt) (rI0 fun i j => .bl (decide (i < j))) := opB0 fun _ _ _ _ _ _ _ q => lt_int q
theorem op_gt : OpR X (compareOp .Gt) (rI0 fun i j => .bl (decide (j < i))) := opB0 fun _ _ _ _ _ _ _ q => gt_int q
theorem op_ge : OpR X (compareOp .GtE) (rI0 fun i j => .bl (decide (j ≤ i))) := opB0 fun _ _ _ _ _ _ _ q => ge_int q
theorem OpR.or {f : Value → Value → Sem Value} {r r' : R2} (h : OpR X f r) (h' : OpR X f r') : OpR X f (fun x y H Q => r x y H Q ∨ r' x y H Q) := by
  intro pins s σ H x y v u Q I rx ry q
  rcases q with q | q
  · exact h pins s σ H x y v u Q I rx ry q
  · exact h' pins s σ H x y v u Q I rx ry q

theorem nomark (b : Expr) {op : CmpOp} (h : op ≠ .In := by decide) (h2 : op ≠ .NotIn := by decide) : behindInMarks op b = false := by
  have e1 : (op == CmpOp.In) = false := by cases op <;> first | rfl | exact absurd rfl h
  have e2 : (op == CmpOp.NotIn) = false := by cases op <;> first | rfl | exact absurd rfl h2
  cases b <;> simp [behindInMarks, e1, e2]
def tTest (t : TE) : TT := fun σ H Q => t σ H fun x H' => ∃ k, x = .bl k ∧ Q k H'
theorem pt_cmpR {op : CmpOp} {r : R2} (ho : OpR X (compareOp op) r) (ha : PE X a ta) (hb : PE X b tb) (hm : behindInMarks op b = false) : PT X (.Compare a [op] [b] pos) (tTest (tOp r ta tb)) := by
  intro pins s σ H Q I h
  refine wpAny_isTrue_Compare1 (thn (ha pins s σ H _ I h) fun v s1 ⟨x, H1, I1, r1, q1⟩ => thn (hb pins s1 σ H1 _ I1 q1) fun u s2 ⟨y, H2, I2, r2, q2⟩ =>
    thn (ho pins s2 σ H2 x y v u _ I2 r1 r2 q2) fun c s3 ⟨z, H3, I3, r3, k, e, q3⟩ => ?_) hm
  subst e
  cases r3
  exact wpAny_truthy_bool ⟨H3, I3, q3⟩
theorem line63 : (sizeLine : Nat) < 2 ^ 63 := by rw [sizeLine_eq]; decide
theorem op_add_str : OpR X (binaryOp .Add) (fun x y H Q => ∃ i j, x = .str i ∧ y = .str j ∧ i.length + j.length ≤ sizeLine ∧ Q (.str (i ++ j)) H) := by
  intro pins s σ H x y v u Q I rx ry h
  obtain ⟨i, j, rfl, rfl, hz, q⟩ := h
  obtain ⟨t, rfl⟩ := rx
  obtain ⟨t', rfl⟩ := ry
  exact add_str (fun t' tk => ⟨.str (i ++ j), H, I.tok _, ⟨_, rfl⟩, q⟩) hz
theorem vals1 {x : V} {us : List Value} (r : Vals [x] us) : ∃ u, us = [u] ∧ RelV x u := by
  cases r with
  | cons r1 r2 => cases r2; exact ⟨_, rfl, r1⟩
theorem call_abs : CallR X (.builtin "abs") (fun xs H Q => ∃ i, xs = [.int i] ∧ Q (.int (if i < 0 then -i else i)) H) := by
  intro pins s σ H xs us Q I r h
  obtain ⟨i, rfl, q⟩ := h
  obtain ⟨u, rfl, t, rfl⟩ := vals1 r
  exact call_abs_int fun u tk => ⟨.int (if i < 0 then -i else i), H, I.tok _, ⟨_, rfl⟩, q⟩
theorem call_str_int : CallR X (.type "str") (fun xs H Q => ∃ i, xs = [.int i] ∧ i.natAbs.log2 < 1920 ∧ Q (.str (toString i)) H) := by
  intro pins s σ H xs us Q I r h
  obtain ⟨i, rfl, hz, q⟩ := h
  obtain ⟨u, rfl, t, rfl⟩ := vals1 r
  exact PySem.P.str_of_int hz ⟨.str _, H, I.tok _, ⟨_, rfl⟩, q⟩
def LenV (K : PySem.W.Frag) (x : V) (H : Hp) (n : Nat) : Prop :=
  match x with
  | .str y => y.length ≤ sizeLine ∧ n = y.length
  | .byt y => y.size ≤ sizeLine ∧ n = y.size
  | .ref p => (∃ xs, SqL K H p xs ∧ n = xs.length) ∨ ∃ xs, SqT K H p xs ∧ n = xs.length
  | _ => False
theorem call_len : CallR X (.builtin "len") (fun xs H Q => ∃ x n, xs = [x] ∧ LenV X.K x H n ∧ Q (.int n) H) := by
  intro pins s σ H xs us Q I r h
  obtain ⟨x, n, rfl, e, q⟩ := h
  obtain ⟨u, rfl, rx⟩ := vals1 r
  have hl := line63
  have hs : sizeLine = 16777216 := sizeLine_eq
  cases x with
  | str y =>
    obtain ⟨t, rfl⟩ := rx
    obtain ⟨hy, e'⟩ : y.length ≤ sizeLine ∧ n = y.length := e
    subst e'
    exact len_str (by omega) ⟨.int _, H, I.tok _, ⟨_, rfl⟩, q⟩
  | byt y =>
    obtain ⟨t, rfl⟩ := rx
    obtain ⟨hy, e'⟩ : y.size ≤ sizeLine ∧ n = y.size := e
    subst e'
    exact PySem.W.len_bytes (by omega) ⟨.int _, H, I.tok _, ⟨_, rfl⟩, q⟩
  | ref p =>
    cases rx
    have e' : (∃ xs, SqL X.K H p xs ∧ n = xs.length) ∨ ∃ xs, SqT X.K H p xs ∧ n = xs.length := e
    rcases e' with ⟨xs, hx, e'⟩ | ⟨xs, hx, e'⟩
    · subst e'
      obtain ⟨its, r', pl, hz⟩ := I.list hx
      have hlen := r'.length
      exact Calls.call_len_list pl.isList (by simp only [List.size_toArray]; omega) ⟨.int xs.length, H, I.tok _, ⟨_, by simp only [List.size_toArray]; rw [hlen]⟩, q⟩
    · subst e'
      obtain ⟨its, r', pl, hz⟩ := I.tuple hx
      have hlen := r'.length
      exact len_tuple pl (by simp only [List.size_toArray]; omega) ⟨.int xs.length, H, I.tok _, ⟨_, by simp only [List.size_toArray]; rw [hlen]⟩, q⟩
  | _ => exact (show False from e).elim
end
end L2
namespace L2
open PySem PySem.Spec PyProof.Rows
structure ObjM (h : Heap) (x dx C : Addr) (mA : Str → Option Value) : Prop where
  obj : h.get? x = some (PySem.W.instObj C dx)
  ns : h.Ns1 dx mA
  ne : dx ≠ x

theorem lookIn_ns {h : Heap} {dx : Addr} {mA : Str → Option Value} (n : h.Ns1 dx mA) : ∃ od, h.get? dx = some od ∧ ∀ name, PySem.W.lookIn name od = some (mA name) := by
  obtain ⟨o, es, ep, ho, hd, hk, _, hm⟩ := n
  refine ⟨o, ho, fun name => ?_⟩
  have e := hm name
  unfold nsFind findBy at e
  rw [← Array.find?_toList] at e
  unfold PySem.W.lookIn
  rw [hd]
  dsimp only
  split
  · rename_i y q
    rw [q] at e
    exact congrArg some e
  · rename_i q
    rw [q] at e
    have a : es.toList.any (·.refKey) = false := by
      rw [List.any_eq_false]
      intro y hy
      obtain ⟨z, t, hkey⟩ := hk y (Array.mem_toList_iff.mp hy)
      simp [DictEntry.refKey, hkey]
    have a' : ¬ es.toList.any (·.refKey) = true := by rw [a]; exact Bool.false_ne_true
    rw [if_neg a']
    exact congrArg some e

theorem ObjM.look {h : Heap} {x dx C : Addr} {mA : Str → Option Value} (I : ObjM h x dx C mA) : ∃ od, PySem.W.InstAt h x (PySem.W.instObj C dx) C (some od) ∧ ∀ name, PySem.W.lookIn name od = some (mA name) :=
  let ⟨od, ho, hl⟩ := lookIn_ns I.ns
  ⟨od, ⟨I.obj, rfl, rfl, ho⟩, hl⟩

section
variable {prog : Program} {w : World} {A : Around} {E : Value → Shared → Prop} {s : Shared} {K : PySem.W.Frag} {x dx C f : Addr} {mA : Str → Option Value} {name : Str} {v : Value}
end
section
variable {P : Program} {w : World} {H H' : Hp} {h h' : Heap} {a C dx : Addr} {fs fs' : List (Str × V)}
theorem ins_get (hok : HOk P w H h) (e : H a = some (.ins C dx fs)) : ∃ mA, ObjM h a dx C mA ∧ (∀ f, RelO (fs.lookup f) (mA f)) ∧ PySem.Within mA (fs.map (·.1)) ∧ fs.length ≤ 1000 ∧ H dx = some (.own a) := by
  obtain ⟨d, z, ne, ob, mA, n, r, q⟩ := (show ObjOk P w H h a (.ins C dx fs) from hok a _ e)
  exact ⟨mA, ⟨ob, n, ne⟩, r, q, z, d⟩
end
structure Cls (K : PySem.W.Frag) (C : Addr) : Prop where
  pg : PySem.W.plainGet K C Str.empty = true
  hd : PySem.W.hasDictIn K C = true
  po : PySem.W.plainOver K C = true
  sa : PySem.W.findIn K (.ref C) "__setattr__" = some (some (.builtin "object.__setattr__"))
theorem Cls.get {K : PySem.W.Frag} {C : Addr} (c : Cls K C) (f : Str) : PySem.W.plainGet K C f = true := c.pg
section
variable {X : Cx} {pins : List (Addr × Obj)} {σ : St} {H : Hp} {s : Shared} {a C dx : Addr} {fs : List (Str × V)} {f : Str} {v : V} {A : Around} {E : Value → Shared → Prop}
theorem Inv.made (I : Inv X pins σ H s) : Inv X pins σ (upd (upd H s.heap.objs.size (.own (s.heap.objs.size + 1))) (s.heap.objs.size + 1) (.ins C s.heap.objs.size []))
    { s with heap := (s.heap.push PySem.W.emptyDict).push (PySem.W.instObj C s.heap.objs.size) } := by
  have e1 : (s.heap.push PySem.W.emptyDict).get? s.heap.objs.size = some PySem.W.emptyDict := Heap.get?_push_size s.heap rfl
  have e2 : ((s.heap.push PySem.W.emptyDict).push (PySem.W.instObj C s.heap.objs.size)).get? (s.heap.objs.size + 1) = some (PySem.W.instObj C s.heap.objs.size) := by
    have := Heap.get?_push_size (s.heap.push PySem.W.emptyDict) (o := PySem.W.instObj C s.heap.objs.size) rfl
    rwa [Heap.size_push] at this
  have e3 : (s.heap.push PySem.W.emptyDict).Ns s.heap.objs.size (fun _ => none) := ⟨PySem.W.emptyDict, #[], _, e1, rfl, (fun e he => absurd he (by simp)), fun _ => rfl⟩
  have I1 := I.laid (a := s.heap.objs.size) (o := .own (s.heap.objs.size + 1)) (h' := s.heap.push PySem.W.emptyDict) (t' := s.toks) (fun b u q => Heap.get?_push_of_some _ q) (Nat.le_refl _) ⟨_, e1⟩
  refine I1.laid (a := s.heap.objs.size + 1) (o := .ins C s.heap.objs.size []) (t' := s.toks) (fun b u q => Heap.get?_push_of_some _ q) (Nat.le_of_eq (Heap.size_push _ _)) ?_
  have ne : s.heap.objs.size ≠ s.heap.objs.size + 1 := Nat.ne_of_lt (Nat.lt_succ_self _)
  refine ⟨by rw [upd_ne ne, upd_same], Nat.zero_le _, ne, e2, fun _ => none, (Heap.Ns1.of_empty e3).at fun o q => Heap.get?_push_of_some _ q, fun _ => True.intro, fun y hy => absurd rfl hy⟩

end
section
variable {X : Cx} {o e value : Expr} {f : Str} {pos pos' tpos : Pos} {ta tv : TE}
end
section
variable {X : Cx} {pins : List (Addr × Obj)} {σ : St} {H : Hp} {s : Shared} {A : Around} {E : Value → Shared → Prop} {Q : Value → Shared → Prop} {c : Value} {b : Bool}
inductive TyOf (K : PySem.W.Frag) (H : Hp) : V → Value → Prop where
  | non : TyOf K H .non (.type "NoneType")
  | bl (x : Bool) : TyOf K H (.bl x) (.type "bool")
  | int (i : Int) : TyOf K H (.int i) (.type "int")
  | str (x : Str) : TyOf K H (.str x) (.type "str")
  | flt (x : UInt64) : TyOf K H (.flt x) (.type "float")
  | lst {a : Addr} {xs : List V} (e : H a = some (.lst xs)) : TyOf K H (.ref a) (.type "list")
  | frz {a : Addr} {o : Obj} {xs : List V} (e : H a = some (.frz o (.lst xs))) : TyOf K H (.ref a) (.type "list")
  | tup {a : Addr} {xs : List V} (e : H a = some (.tup xs)) : TyOf K H (.ref a) (.type "tuple")
  | dK {a : Addr} {kvs : List (Key × V)} (e : H a = some (.dK kvs)) : TyOf K H (.ref a) (.type "dict")
  | dT {a : Addr} {kvs : List (List Key × V)} (e : H a = some (.dT kvs)) : TyOf K H (.ref a) (.type "dict")
  | ins {a C dx : Addr} {fs : List (Str × V)} (e : H a = some (.ins C dx fs)) (cl : Cls K C) (ha : PySem.W.findIn K (.ref C) "__class__" = some (some (.builtin "object.__class__")))
      (hn : PySem.W.specialIn K (.builtin "object.__class__") "__get__" = some (some (.builtin "getset_descriptor.__get__"))) (htk : PySem.W.takesIn K (.builtin "object.__class__") = some true)
      (hm : PySem.W.mroIn K C (.type "object") = some true) : TyOf K H (.ref a) (.ref C)
end
end L2
namespace L2
open PySem PySem.Spec PyProof.Rows
structure Room (k : Nat) (A : Around) : Prop where
  hd : A.handled = none
  dp : A.depth + 3 * k + 5 < recursionLimit
  un : A.units + 16 * k + 200 < cLine
theorem Room.mono {j k : Nat} {A : Around} (r : Room k A) (h : j ≤ k) : Room j A := ⟨r.hd, by have := r.dp; omega, by have := r.un; omega⟩
theorem Room.deeper {k : Nat} {A : Around} (r : Room (k + 1) A) (env : Env) : Room k (A.deeper env) :=
  ⟨r.hd, by have := r.dp; show A.depth + 1 + 3 * k + 5 < _; omega, by have := r.un; show A.units + 3 + 16 * k + 200 < _; omega⟩
theorem Room.in1 {k : Nat} {A : Around} (r : Room (k + 1) A) : Room k A.in1 :=
  ⟨r.hd, by have := r.dp; show A.depth + 3 * k + 5 < _; omega, by have := r.un; show A.units + 1 + 16 * k + 200 < _; omega⟩
theorem Room.depth {k : Nat} {A : Around} (r : Room k A) : A.depth < recursionLimit := by have := r.dp; omega
theorem Room.units {k : Nat} {A : Around} (r : Room k A) : A.units + 64 < cLine := by have := r.un; omega
def tNil : TA := fun _ H Q => Q [] H
def tCons (ta : TE) (tr : TA) : TA := fun σ H Q => ta σ H fun x H1 => tr σ H1 fun xs H2 => Q (x :: xs) H2
section
variable {X : Cx} {e : Expr} {es : List Expr} {te : TE} {t : TA} {pos : Pos}
theorem pa_nil : PA X [] tNil := fun _ _ _ _ H Q I h => Calls.spliced_nil ⟨[], H, I, .nil, h⟩
theorem pa_cons (ha : PE X e te) (hr : PA X es t) (hs : starEach (e :: es) X.env = (false, eval e X.env) :: starEach es X.env := by rfl) : PA X (e :: es) (tCons te t) := by
  intro pos pins s σ H Q I h
  rw [hs]
  show wpAny _ _ (spliced ((false, eval e X.env) :: backTo pos (starEach es X.env))) _ _ s
  refine Calls.spliced_cons (thn (ha pins s σ H _ I h) fun u s1 ⟨x, H1, I1, r1, q1⟩ => ?_)
  exact thn (hr pos pins s1 σ H1 _ I1 q1) fun us s2 ⟨xs, H2, I2, r2, q2⟩ => ⟨x :: xs, H2, I2, .cons r1 r2, q2⟩

def tTup (t : TA) : TE := fun σ H Q => t σ H fun xs H1 => xs.length ≤ sizeLine ∧ ∀ p, H1 p = none → Q (.ref p) (upd H1 p (.tup xs))
def tLst (t : TA) : TE := fun σ H Q => t σ H fun xs H1 => xs.length ≤ sizeLine ∧ ∀ p, H1 p = none → Q (.ref p) (upd H1 p (.lst xs))
theorem pe_tup {x1} (h : PA X es t) : PE X (.Tuple es x1 pos) (tTup t) := by
  intro pins s σ H Q I hq
  refine wpAny_Tuple_spliced (thn (h pos pins s σ H _ I hq) fun us s1 ⟨xs, H1, I1, r, z, q⟩ => ⟨by rw [← r.length]; exact z, ?_⟩)
  have hf : H1 s1.heap.objs.size = none := I1.hok.fresh (Nat.le_refl _)
  refine ⟨.ref s1.heap.objs.size, upd H1 s1.heap.objs.size (.tup xs), I1.laid (t' := s1.toks) (fun b u e => Heap.get?_push_of_some _ e) (Nat.le_refl _) ?_, rfl, q _ hf⟩
  exact ⟨z, us, r, ⟨_, Heap.get?_push_size _ rfl, rfl, _, rfl⟩⟩
theorem pe_lst (h : PA X es t) : PE X (.List es pos) (tLst t) := by
  intro pins s σ H Q I hq
  refine wpAny_List_spliced (thn (h pos pins s σ H _ I hq) fun us s1 ⟨xs, H1, I1, r, z, q⟩ => ⟨by rw [← r.length]; exact z, ?_⟩)
  have hf : H1 s1.heap.objs.size = none := I1.hok.fresh (Nat.le_refl _)
  refine ⟨.ref s1.heap.objs.size, upd H1 s1.heap.objs.size (.lst xs), I1.laid (t' := s1.toks) (fun b u e => Heap.get?_push_of_some _ e) (Nat.le_refl _) ?_, rfl, q _ hf⟩
  exact ⟨z, us, 0, r, Heap.get?_push_size _ rfl⟩
end
abbrev Sp := List V → Hp → VK → XK → Prop
abbrev CXT := List Env → Hp → Shared → XK → Value → Shared → Prop

structure Env0 (P : Program) (w : World) (K : PySem.W.Frag) (mg : Str → Option Value) (base : Heap) (A : Around) (outer : List Env) (s : Shared) (H : Hp) : Prop where
  frames : A.frames = some outer
  mod : Mod K mg base
  bs : ∀ b o, base.get? b = some o → s.heap.get? b = some o ∧ H b = none
  bsz : base.objs.size ≤ s.heap.objs.size
  funs : s.heap.FunFrames base outer
  frf : ∀ b ∈ frs outer, H b = none
  hok : HOk P w H s.heap
  bare : AllBare s.gens
def CE (outer : List Env) (P : Program) (w : World) (H : Hp) (s : Shared) (Q : VK) (u : Value) (s' : Shared) : Prop :=
  ∃ v H', s'.os = s.os ∧ AllBare s'.gens ∧ Un (frs outer) [] H H' s.heap s'.heap ∧ HOk P w H' s'.heap ∧ RelV v u ∧ Q v H'
def CR (CX : CXT) (outer : List Env) (P : Program) (w : World) (H : Hp) (s : Shared) (Q : VK) (E : XK) (r : Result) (s' : Shared) : Prop :=
  match r with
  | .ok (.ret u) => CE outer P w H s Q u s'
  | .ok _ => False
  | .error e => CX outer H s E e s'
structure FnOk (P : Program) (w : World) (K : PySem.W.Frag) (mg : Str → Option Value) (base : Heap) (CX : CXT) (k : Nat) (f : Addr) (fd : FuncData) (ps : List Str) (sp : Sp) : Prop where
  len : ∀ vs H Q E, sp vs H Q E → vs.length = ps.length
  run : ∀ (A : Around) (outer : List Env) (s : Shared) (H : Hp) (args : Args) (us : List Value) (vs : List V) (Q : VK) (E : XK), Room k A → Env0 P w K mg base A outer s H → BindsTo s fd args (ps.zip us) → Vals vs us → sp vs H Q E →
    codeAny (model P w) A (.call (.ref f) args) (CR CX outer P w H s Q E) s
theorem FnOk.mono {P : Program} {w : World} {K : PySem.W.Frag} {mg : Str → Option Value} {base : Heap} {CX : CXT} {j k : Nat} {f : Addr} {fd : FuncData} {ps : List Str} {sp : Sp} (F : FnOk P w K mg base CX j f fd ps sp) (h : j ≤ k) :
    FnOk P w K mg base CX k f fd ps sp := ⟨F.len, fun A outer s H args us vs Q E hr => F.run A outer s H args us vs Q E (hr.mono h)⟩
theorem FnOk.imp {P : Program} {w : World} {K : PySem.W.Frag} {mg : Str → Option Value} {base : Heap} {CX : CXT} {k : Nat} {f : Addr} {fd : FuncData} {ps : List Str} {sp sp' : Sp} (F : FnOk P w K mg base CX k f fd ps sp)
    (h : ∀ vs H Q E, sp' vs H Q E → sp vs H Q E) : FnOk P w K mg base CX k f fd ps sp' :=
  ⟨fun vs H Q E q => F.len vs H Q E (h _ _ _ _ q), fun A outer s H args us vs Q E hr he hb hv hs => F.run A outer s H args us vs Q E hr he hb hv (h _ _ _ _ hs)⟩

theorem Env0.in1 {P : Program} {w : World} {K : PySem.W.Frag} {mg : Str → Option Value} {base : Heap} {A : Around} {outer : List Env} {s : Shared} {H : Hp} (e : Env0 P w K mg base A outer s H) :
    Env0 P w K mg base A.in1 outer s H := ⟨e.frames, e.mod, e.bs, e.bsz, e.funs, e.frf, e.hok, e.bare⟩

section
variable {X : Cx} {pins : List (Addr × Obj)} {σ : St} {H : Hp} {s s' : Shared}
theorem Inv.env0 (I : Inv X pins σ H s) : Env0 X.prog X.w X.K X.mg X.base X.A X.stack s H :=
  ⟨I.ok.frames, I.ok.mod, I.bs, Nat.le_trans I.ok.bsz I.sz, I.stack, I.stkFree, I.hok, I.bare⟩
theorem Inv.after {Q : VK} {u : Value} (I : Inv X pins σ H s) (h : CE X.stack X.prog X.w H s Q u s') : EP X pins σ Q u s' := by
  obtain ⟨v, H', os, bare, un, hok, r, q⟩ := h
  obtain ⟨hh, g, d, t, os'⟩ := s'
  obtain rfl : os' = s.os := os
  exact ⟨v, H', I.call (h' := hh) (g' := g) (d' := d) (t' := t) (ch := []) un hok bare (fun b z => absurd z (by simp)), r, q⟩
end
def tCall (sp : Sp) (dvs : List V) (E : XK) (t : TA) : TE := fun σ H Q => t σ H fun vs H1 => sp (vs ++ dvs) H1 Q E
def Binds (K : PySem.W.Frag) (fd : FuncData) (ps : List Str) (ds : List Value) : Prop :=
  ∀ (s : Shared) (us : List Value), K.In s.heap → (us ++ ds).length = ps.length → BindsTo s fd ⟨us, []⟩ (ps.zip (us ++ ds))
theorem Binds.all {K : PySem.W.Frag} {fd : FuncData} {ps : List Str} (h : ∀ us : List Value, us.length = ps.length → bindArgs fd ⟨us, []⟩ = pure (ps.zip us)) : Binds K fd ps [] := fun s us _ hl => by
  rw [List.append_nil] at hl ⊢
  exact .of_eq (h us hl)

def Passes (CX : CXT) (X : Cx) (E : XK) : Prop := ∀ (pins : List (Addr × Obj)) (σ : St) (H : Hp) (s : Shared) (e : Value) (s' : Shared), Inv X pins σ H s → CX X.stack H s E e s' → X.xe e s'

section
variable {X : Cx} {CX : CXT} {k : Nat} {f C : Addr} {fd : FuncData} {ps : List Str} {sp : Sp} {dvs : List V} {ds : List Value} {E : XK} {x m : Str} {p pos apos : Pos} {e o : Expr} {es : List Expr} {ta : TE} {t : TA}
theorem run_fn {pins : List (Addr × Obj)} {σ : St} {H : Hp} {s : Shared} {Q : VK} {us : List Value} {vs : List V} (F : FnOk X.prog X.w X.K X.mg X.base CX k f fd ps sp) (hr : Room k X.A) (hb : Binds X.K fd ps ds) (hd : Vals dvs ds) (hx : Passes CX X E)
    (I : Inv X pins σ H s) (r : Vals vs us) (h : sp (vs ++ dvs) H Q E) : wpAny (model X.prog X.w) X.A (call (.ref f) us) (EP X pins σ Q) X.xe s := by
  have r2 : Vals (vs ++ dvs) (us ++ ds) := r.append hd
  have hl : (us ++ ds).length = ps.length := by rw [← r2.length]; exact F.len _ _ _ _ h
  refine wpAny_call (codeAny_mono (F.run X.A X.stack s H ⟨us, []⟩ (us ++ ds) (vs ++ dvs) Q E hr I.env0 (hb s us I.kIn hl) r2 h) fun r s' hq => ?_)
  cases r with
  | error e => exact hx pins σ H s e s' I hq
  | ok fl =>
    cases fl with
    | ret u => exact I.after hq
    | next => exact False.elim hq
    | brk => exact False.elim hq
    | cont => exact False.elim hq

theorem pe_call (F : FnOk X.prog X.w X.K X.mg X.base CX k f fd ps sp) (hr : Room k X.A) (hg : Gl X x) (hm : X.mg x = some (.ref f)) (hk : PySem.W.keepIn X.K (.ref f) = true) (hb : Binds X.K fd ps ds) (hd : Vals dvs ds) (hx : Passes CX X E)
    (ha : PA X (e :: es) t) (hdb : (x == ("__debug__" : Str)) = false := by decide) (he : starEach (e :: es) X.env = (false, eval e X.env) :: starEach es X.env := by rfl) (hpl : (backTo pos (starEach es X.env)).any (·.1) = false := by rfl) :
    PE X (.Call (.Name x p) (e :: es) [] pos) (tCall sp dvs E t) := by
  intro pins s σ H Q I h
  refine wpAny_Call_Name_kw (ld_glob I hg hm ?_ hdb)
  refine PySem.W.callWith_K (h₀ := X.base) I.ok.mod.kin hk (thn (ha pos pins s σ H _ I h) fun us s1 ⟨vs, H1, I1, r, q⟩ => ⟨I1.kIn, ?_⟩) he hpl
  exact run_fn F hr hb hd hx I1 r q
end
section
variable {X : Cx} {CX : CXT} {k : Nat} {f C : Addr} {fd : FuncData} {ps ks : List Str} {sp : Sp} {E : XK} {x m : Str} {p pos apos kpos : Pos} {e o : Expr} {es : List Expr} {kws : List Keyword} {te ta : TE} {t tk : TA} {nm : Option Str}
variable {g : List Value → List Value → List Value} {gV : List V → List V → List V}
end
structure FnScope (N P : List Str) (sc : Scope) : Prop where
  kind : sc.kind = .function
  co : sc.isCoroutine = false
  gen : sc.isGenerator = false
  nd : N.Nodup
  pre : N.take P.length = P
  par : ∀ x ∈ P, sc.names.lookup x = some .local ∨ sc.names.lookup x = some .cell
  nofree : ∀ y ∈ sc.names, y.2 ≠ .free

theorem bindL_out {kindOf : Str → Option NameKind} {x : Str} : ∀ {binds : List (Str × Value)} {m : Str → Option Value}, (∀ v, (x, v) ∉ binds) → bindL kindOf binds m x = m x
  | [], _, _ => rfl
  | (n, v) :: r, m, h => by
    unfold bindL
    rw [bindL_out fun w hw => h w (List.mem_cons_of_mem _ hw)]
    split
    · have : x ≠ n := by rintro rfl; exact h v List.mem_cons_self
      simp [this]
    · rfl
theorem bindC_out {kindOf : Str → Option NameKind} {x : Str} : ∀ {binds : List (Str × Value)} {m : Str → Option Value}, (∀ v, (x, v) ∉ binds) → bindC kindOf binds m x = m x
  | [], _, _ => rfl
  | (n, v) :: r, m, h => by
    unfold bindC
    rw [bindC_out fun w hw => h w (List.mem_cons_of_mem _ hw)]
    split
    · rfl
    · have : x ≠ n := by rintro rfl; exact h v List.mem_cons_self
      simp [this]
theorem bindL_get {kindOf : Str → Option NameKind} {x : Str} {v : Value} : ∀ {P : List Str} {vs : List Value} {i : Nat} {m : Str → Option Value}, P.Nodup → P[i]? = some x → vs[i]? = some v → kindOf x = some .local →
    bindL kindOf (P.zip vs) m x = some v
  | [], _, _, _, _, h, _, _ => by simp at h
  | _ :: _, [], _, _, _, _, h, _ => by simp at h
  | p :: P, w :: vs, 0, m, nd, h1, h2, hk => by
    simp at h1 h2; subst h1; subst h2
    show bindL kindOf ((p, w) :: P.zip vs) m p = _
    unfold bindL
    rw [bindL_out fun v hv => (List.nodup_cons.mp nd).1 (List.of_mem_zip hv).1, if_pos hk]
    simp
  | p :: P, w :: vs, i + 1, m, nd, h1, h2, hk => by
    show bindL kindOf ((p, w) :: P.zip vs) m x = _
    unfold bindL
    exact bindL_get (i := i) (List.nodup_cons.mp nd).2 (by simpa using h1) (by simpa using h2) hk
theorem bindC_get {kindOf : Str → Option NameKind} {x : Str} {v : Value} : ∀ {P : List Str} {vs : List Value} {i : Nat} {m : Str → Option Value}, P.Nodup → P[i]? = some x → vs[i]? = some v → kindOf x ≠ some .local →
    bindC kindOf (P.zip vs) m x = some v
  | [], _, _, _, _, h, _, _ => by simp at h
  | _ :: _, [], _, _, _, _, h, _ => by simp at h
  | p :: P, w :: vs, 0, m, nd, h1, h2, hk => by
    simp at h1 h2; subst h1; subst h2
    show bindC kindOf ((p, w) :: P.zip vs) m p = _
    unfold bindC
    rw [bindC_out fun v hv => (List.nodup_cons.mp nd).1 (List.of_mem_zip hv).1, if_neg hk]
    simp
  | p :: P, w :: vs, i + 1, m, nd, h1, h2, hk => by
    show bindC kindOf ((p, w) :: P.zip vs) m x = _
    unfold bindC
    exact bindC_get (i := i) (List.nodup_cons.mp nd).2 (by simpa using h1) (by simpa using h2) hk

def start (N : List Str) (vs : List V) : St := vs.map some ++ List.replicate (N.length - vs.length) none

def cxOf (CX : CXT) (P : Program) (w : World) (K : PySem.W.Frag) (mg : Str → Option Value) (base : Heap) (N : List Str) (qual : Str) (scope : Scope) (f : Addr) (cd : Value) (A : Around) (outer : List Env) (s : Shared) (H : Hp) (E : XK) : Cx where
  prog := P
  w := w
  K := K
  mg := mg
  base := base
  A := A.deeper (envOfC qual scope s.heap.objs.size f cd)
  N := N
  s₀ := s
  H₀ := H
  env := envOfC qual scope s.heap.objs.size f cd
  outer := outer
  stack := envOfC qual scope s.heap.objs.size f cd :: outer
  ex := []
  calm := true
  fn := fun _ => true
  pn := []
  xe := fun e s' => wpAny (model P w) (A.deeper (envOfC qual scope s.heap.objs.size f cd)) (leaving (envOfC qual scope s.heap.objs.size f cd) e) (fun _ s'' => CX outer H s E e s'') (fun e' s'' => CX outer H s E e' s'') s'

theorem cell_has {sc : Scope} {n : Nat} {x : Str} (h : sc.names.lookup x = some .cell) : ∃ c, (cellsFrom n sc.names []).lookup x = some c := by
  have q := PySem.W.cellsFrom_some sc.names n [] (.inl h)
  exact Option.isSome_iff_exists.mp q

theorem inv_start {CX : CXT} {P : Program} {w : World} {K : PySem.W.Frag} {mg : Str → Option Value} {base : Heap} {N ps : List Str} {qual : Str} {scope : Scope} {f : Addr} {cd : Value} {A : Around} {outer : List Env} {s s1 : Shared} {H : Hp} {E : XK} {us : List Value} {vs : List V}
    (S : FnScope N ps scope) (hd : A.handled = none) (e0 : Env0 P w K mg base A outer s H) (hl : vs.length = ps.length) (r : Vals vs us)
    (x : InCallC s s.heap.objs.size (bindL (envOfC qual scope s.heap.objs.size f cd).kindOf (ps.zip us) fun _ => none) (cellsFrom (s.heap.objs.size + 1) scope.names []) (bindC (envOfC qual scope s.heap.objs.size f cd).kindOf (ps.zip us) fun _ => none) s1) :
    Inv (cxOf CX P w K mg base N qual scope f cd A outer s H E) [] (start N vs) H s1 := by
  have hpl : ps.length ≤ N.length := by have := congrArg List.length S.pre; rw [List.length_take] at this; omega
  obtain ⟨h1, tk, rfl, hk⟩ := x.done
  have noA : ∀ b : Addr, b ∉ (cxOf CX P w K mg base N qual scope f cd A outer s H E).ex := fun b z => absurd (show b ∈ ([] : List Addr) from z) (by simp)
  refine ⟨⟨e0.mod, S.kind, rfl, rfl, Nat.le_refl _, fun y z c h1 h2 => ?_, fun y hy => ?_, fun y c _ h => ?_, fun _ => hd, Around.frames_deeper e0.frames, .inr ⟨rfl, rfl⟩, fun b z => absurd z (noA b), e0.bs, e0.bsz, fun b _ _ => noA b, fun b z => absurd z (noA b), e0.funs, e0.frf⟩,
    rfl, e0.bare, Un.kept hk, ⟨_, x.toInCall.ns, fun i y v h1 h2 h3 => ?_⟩, fun y c h => ⟨_, x.cell y c h⟩, e0.hok.fresh (Nat.le_refl _), fun y c h => ?_, fun p hp => absurd (show p ∈ ([] : List (Addr × Obj)) from hp) (by simp), e0.hok.kept hk, ?_⟩
  · exact name_of_addr x.apart (PySem.mem_of_lookup h1) (PySem.mem_of_lookup h2)
  · have hy : scope.names.lookup y = some .cell ∨ scope.names.lookup y = some .free := hy
    rcases hy with hy | hy
    · exact cell_has hy
    · exact absurd rfl (S.nofree _ (PySem.mem_of_lookup hy))
  · exact Nat.le_of_lt (x.above y c (PySem.mem_of_lookup h))
  · have hi : i < vs.length := by
      unfold start at h2
      by_cases hi : i < vs.length
      · exact hi
      · rw [List.getElem?_append_right (by simpa using hi)] at h2
        rw [List.getElem?_replicate] at h2
        split at h2 <;> cases h2
    have ha : vs[i]? = some v := by
      unfold start at h2
      rw [List.getElem?_append_left (by simpa using hi), List.getElem?_map] at h2
      cases e : vs[i]? with
      | none => rw [e] at h2; cases h2
      | some a => rw [e] at h2; cases h2; rfl
    obtain ⟨u, hu, rv⟩ := r.get ha
    have hp : ps[i]? = some y := by
      rw [← S.pre, List.getElem?_take_of_lt (by omega)]; exact h1
    have ndP : ps.Nodup := by rw [← S.pre]; exact S.nd.sublist (List.take_sublist _ _)
    refine ⟨u, rv, ?_⟩
    rcases S.par y (List.mem_of_getElem? hp) with k | k
    · exact .inl ⟨k, bindL_get ndP hp hu k⟩
    · obtain ⟨c, e⟩ := cell_has (n := s.heap.objs.size + 1) k
      refine .inr ⟨.inl k, c, e, ?_⟩
      have q := x.cell y c e
      rw [bindC_get ndP hp hu (by show scope.names.lookup y ≠ _; rw [k]; decide)] at q
      exact q
  · exact e0.hok.fresh (Nat.le_of_lt (x.above y c (PySem.mem_of_lookup h)))
  · unfold start
    show _ = N.length
    rw [List.length_append, List.length_map, List.length_replicate]
    omega

theorem fn_of {CX : CXT} {P : Program} {w : World} {K : PySem.W.Frag} {mg : Str → Option Value} {base : Heap} {k : Nat} {f : Addr} {name qual : Str} {params : Arguments} {body : List Stmt} {scope : Scope} {dV kV doc pm cdv ct oc : Value} {an od : Option Addr}
    {osl : Array (Option Value)} {N ps : List Str} {sp : Sp} (lk : K.lookup f = some ⟨oc, od, .func (PySem.W.fnOf name qual params body scope dV kV doc pm an cdv ct), osl⟩) (hcd : PySem.W.codeIn K cdv qual = true) (S : FnScope N ps scope)
    (len : ∀ vs H Q E, sp vs H Q E → vs.length = ps.length)
    (hbody : ∀ (A : Around) (outer : List Env) (s : Shared) (H : Hp) (vs : List V) (Q : VK) (E : XK), Room k (A.deeper (envOfC qual scope s.heap.objs.size f cdv)) → sp vs H Q E →
      ∃ t, PSs (cxOf CX P w K mg base N qual scope f cdv A outer s H E) body t ∧ t { nx := fun _ H' => Q .non H', rt := Q } (start N vs) H) :
    FnOk P w K mg base CX (k + 1) f (PySem.W.fnOf name qual params body scope dV kV doc pm an cdv ct) ps sp := by
  refine ⟨len, fun A outer s H args us vs Q E hr e0 hb r hsp => ?_⟩
  have hl := len _ _ _ _ hsp
  have KX : K.In s.heap := e0.mod.kin.keeps fun b o e => (e0.bs b o e).1
  have lim : s.heap.NoLimit := e0.mod.nolimit.keeps fun b o e => (e0.bs b o e).1
  have hkind : ∀ y ∈ ps.zip us, scope.names.lookup y.1 = some .local ∨ (scope.names.lookup y.1 = some .cell ∧ ((cellsFrom (s.heap.objs.size + 1) scope.names []).lookup y.1).isSome = true) := fun ⟨n, v⟩ hy => by
    rcases S.par n (List.of_mem_zip hy).1 with q | q
    · exact .inl q
    · exact .inr ⟨q, PySem.W.cellsFrom_some _ _ _ (.inl q)⟩
  refine codeAny_call_function hr.depth (KX _ _ lk) rfl S.co S.gen rfl (PySem.W.codeRec_of KX hcd) (hb _ _ _ _ ?_)
  refine wpAny_newFunctionEnv_cells S.kind hkind fun env he s1 x => ?_
  subst he
  refine ⟨lim.keeps x.toInCall.keep, codeAny_func ?_⟩
  obtain ⟨t, ht, hq⟩ := hbody A outer s H vs Q E (hr.deeper _) hsp
  have I : Inv (cxOf CX P w K mg base N qual scope f cdv A outer s H E) [] (start N vs) H s1 := inv_start S hr.hd e0 hl r x
  refine wpAny_mono (ht [] s1 (start N vs) H _ I hq) (fun fl s' hs => ?_) fun e s' hs => hs
  have fin : ∀ {σ' : St} {H' : Hp} {v : V} {u : Value}, Inv (cxOf CX P w K mg base N qual scope f cdv A outer s H E) [] σ' H' s' → RelV v u → Q v H' → CE outer P w H s Q u s' :=
    fun {σ' H' v u} J rv q => ⟨v, H', J.os, J.bare, J.base, J.hok, rv, q⟩
  cases fl with
  | ret u =>
    obtain ⟨v, σ', H', J, rv, q⟩ := hs
    exact fin J rv q
  | next =>
    obtain ⟨σ', H', J, q⟩ := hs
    exact fin (v := V.non) (u := Value.none) J rfl q
  | brk =>
    obtain ⟨_, _, _, q⟩ := hs
    exact False.elim q
  | cont =>
    obtain ⟨_, _, _, q⟩ := hs
    exact False.elim q
end L2
namespace L2
open PySem PySem.Spec PyProof.Rows
section
variable {X : Cx} {x : Str} {p pos : Pos} {e : Expr} {es : List Expr} {t : TA} {id T : String} {r : List V → Hp → VK → Prop}
def tCB (r : List V → Hp → VK → Prop) (t : TA) : TE := fun σ H Q => t σ H fun vs H1 => r vs H1 Q
theorem pe_callB (hc : CallR X (.builtin id) r) (hg : Gl X x) (hm : X.mg x = none) (hv : bootBuiltins x = some (.builtin id)) (ha : PA X (e :: es) t) (hn : x ≠ "__name__" := by decide) (hdb : (x == ("__debug__" : Str)) = false := by decide)
    (he : starEach (e :: es) X.env = (false, eval e X.env) :: starEach es X.env := by rfl) (hpl : (backTo pos (starEach es X.env)).any (·.1) = false := by rfl) : PE X (.Call (.Name x p) (e :: es) [] pos) (tCB r t) := by
  intro pins s σ H Q I h
  refine wpAny_Call_Name_kw (ld_blt I hg hm hv ?_ hn hdb)
  exact PyProof.Rows.callWith_builtin1 (thn (ha pos pins s σ H _ I h) fun us s1 ⟨vs, H1, I1, r1, q1⟩ => hc pins s1 σ H1 vs us Q I1 r1 q1) he hpl
theorem pe_callTy (hc : CallR X (.type T) r) (hg : Gl X x) (hm : X.mg x = none) (hv : bootBuiltins x = some (.type T)) (ha : PA X (e :: es) t) (hn : x ≠ "__name__" := by decide) (hdb : (x == ("__debug__" : Str)) = false := by decide)
    (he : starEach (e :: es) X.env = (false, eval e X.env) :: starEach es X.env := by rfl) (hpl : (backTo pos (starEach es X.env)).any (·.1) = false := by rfl) : PE X (.Call (.Name x p) (e :: es) [] pos) (tCB r t) := by
  intro pins s σ H Q I h
  refine wpAny_Call_Name_kw (ld_blt I hg hm hv ?_ hn hdb)
  exact PyProof.Rows.callWith_type1 (thn (ha pos pins s σ H _ I h) fun us s1 ⟨vs, H1, I1, r1, q1⟩ => hc pins s1 σ H1 vs us Q I1 r1 q1) he hpl
end
end L2
namespace HT
open PySem PyProof.Rows
section
open PySem.SeqAt
open PySem.AutoSeq1 (wpAny_loadPart')
open PySem.MeetsSeq PySem.MeetsSeq2 PySem.MeetsSeq3
end
section
variable {prog : Program} {w : World} {A : Around} {E : Value → Shared → Prop} {s : Shared}
end
end HT
namespace L2
open PySem PySem.Spec PyProof.Rows
abbrev TO := St → Hp → (Option Int → Hp → Prop) → Prop
section
variable {X : Cx} {e : Expr} {te : TE} {lo hi : Option Expr} {tl th : TO} {pos p2 : Pos}
def SlR (X : Cx) (r : V → Option Int → Option Int → Hp → VK → Prop) : Prop :=
  ∀ (pins : List (Addr × Obj)) (s : Shared) (σ : St) (H : Hp) (x : V) (v vl vu : Value) (lo hi : Option Int) (sl : Addr) (Q : VK), Inv X pins σ H s → RelV x v → s.heap.IsSliceOf sl vl vu .none → IsPart vl lo → IsPart vu hi → r x lo hi H Q →
    ∃ T id, typeLookup (.type T) "__getitem__" = pure (some (.builtin id)) ∧ s.TypeIs v T ∧ wpAny (model X.prog X.w) X.A (getItem v (.ref sl)) (EP X pins σ Q) X.xe s
theorem SlR.or {r r' : V → Option Int → Option Int → Hp → VK → Prop} (h : SlR X r) (h' : SlR X r') : SlR X (fun x lo hi H Q => r x lo hi H Q ∨ r' x lo hi H Q) := by
  intro pins s σ H x v vl vu lo hi sl Q I rx hs pl pu q
  rcases q with q | q
  · exact h pins s σ H x v vl vu lo hi sl Q I rx hs pl pu q
  · exact h' pins s σ H x v vl vu lo hi sl Q I rx hs pl pu q
end
end L2
namespace L2
open PySem PySem.Spec PyProof.Rows
def ixN (n : Nat) (i : Int) : Option Nat := if 0 ≤ i then (if i < n then some i.toNat else none) else if -(n : Int) ≤ i then some (i + n).toNat else none
def atI {α : Type} (xs : List α) (i : Int) : Option α := (ixN xs.length i).bind fun j => xs[j]?
theorem ixN_seq {n : Nat} {i : Int} {j : Nat} (h : ixN n i = some j) : seqIndex? i n = some j ∧ j < n ∧ -(n : Int) ≤ i ∧ i < n := by
  unfold ixN at h
  by_cases h0 : 0 ≤ i
  · rw [if_pos h0] at h
    by_cases h1 : i < n
    · rw [if_pos h1] at h
      have e : i.toNat = j := Option.some.inj h
      exact ⟨by rw [seqIndex_of h0 h1, e], by omega, by omega, h1⟩
    · rw [if_neg h1] at h; cases h
  · rw [if_neg h0] at h
    by_cases h1 : -(n : Int) ≤ i
    · rw [if_pos h1] at h
      have e : (i + n).toNat = j := Option.some.inj h
      exact ⟨by rw [seqIndex_neg (by omega) h1, e], by omega, h1, by omega⟩
    · rw [if_neg h1] at h; cases h
theorem atI_get {α : Type} {xs : List α} {i : Int} {v : α} (h : atI xs i = some v) : ∃ j, seqIndex? i xs.length = some j ∧ xs[j]? = some v ∧ j < xs.length ∧ -(xs.length : Int) ≤ i ∧ i < xs.length := by
  unfold atI at h
  cases e : ixN xs.length i with
  | none => rw [e] at h; cases h
  | some j =>
    rw [e] at h
    obtain ⟨h1, h2, h3, h4⟩ := ixN_seq e
    exact ⟨j, h1, h, h2, h3, h4⟩
theorem atI_nat {α : Type} {xs : List α} {j : Nat} {v : α} (h : xs[j]? = some v) : atI xs (j : Int) = some v := by
  have hj : j < xs.length := (List.getElem?_eq_some_iff.mp h).1
  have e : ixN xs.length (j : Int) = some j := by
    unfold ixN
    rw [if_pos (by omega), if_pos (by omega)]; simp
  unfold atI; rw [e]; exact h
def PlainIx (b : Expr) : Prop := ∀ o i, subscripted b false o i = operate [o, i] (getItem o i)
def IxR (X : Cx) (r : R2) : Prop :=
  ∀ (value slice : Expr) (pins : List (Addr × Obj)) (s : Shared) (σ : St) (H : Hp) (x y : V) (v u : Value) (Q : VK), Inv X pins σ H s → RelV x v → RelV y u → r x y H Q →
    subscripted slice false v u = operate [v, u] (getItem v u) → wpAny (model X.prog X.w) X.A (subscriptTail value slice v u) (EP X pins σ Q) X.xe s
def MtR (X : Cx) (id : String) (r : V → List V → Hp → VK → Prop) : Prop :=
  ∀ (pins : List (Addr × Obj)) (s : Shared) (σ : St) (H : Hp) (x : V) (xs : List V) (v : Value) (us : List Value) (Q : VK), Inv X pins σ H s → RelV x v → Vals xs us → r x xs H Q →
    wpAny (model X.prog X.w) X.A (call (.builtin id) (v :: us)) (EP X pins σ Q) X.xe s
section
variable {X : Cx} {a b : Expr} {ta tb : TE} {pos : Pos}
theorem IxR.or {r r' : R2} (h : IxR X r) (h' : IxR X r') : IxR X (fun x y H Q => r x y H Q ∨ r' x y H Q) := by
  intro value slice pins s σ H x y v u Q I rx ry q hs
  rcases q with q | q
  · exact h value slice pins s σ H x y v u Q I rx ry q hs
  · exact h' value slice pins s σ H x y v u Q I rx ry q hs
theorem MtR.or {id : String} {r r' : V → List V → Hp → VK → Prop} (h : MtR X id r) (h' : MtR X id r') : MtR X id (fun x xs H Q => r x xs H Q ∨ r' x xs H Q) := by
  intro pins s σ H x xs v us Q I rx rs q
  rcases q with q | q
  · exact h pins s σ H x xs v us Q I rx rs q
  · exact h' pins s σ H x xs v us Q I rx rs q
theorem pe_ix {r : R2} (hr : IxR X r) (ha : PE X a ta) (hb : PE X b tb) (hs : PlainIx b) : PE X (.Subscript a b pos) (tOp r ta tb) := by
  intro pins s σ H Q I h
  exact Subscript_ (binT ha hb I h fun v u s2 x y H2 I2 rx ry q => hr a b pins s2 σ H2 x y v u Q I2 rx ry q (hs _ _))

def rIxL (K : PySem.W.Frag) : R2 := fun x y H Q => ∃ p xs i v, x = .ref p ∧ y = .int i ∧ SqL K H p xs ∧ atI xs i = some v ∧ Q v H
def rIxT (K : PySem.W.Frag) : R2 := fun x y H Q => ∃ p xs i v, x = .ref p ∧ y = .int i ∧ SqT K H p xs ∧ atI xs i = some v ∧ Q v H
theorem ix_list : IxR X (rIxL X.K) := by
  intro value slice pins s σ H x y v u Q I rx ry h hs
  obtain ⟨p, xs, i, z, rfl, rfl, hq, he, q⟩ := h
  cases rx
  obtain ⟨t, rfl⟩ := ry
  obtain ⟨its, r, pl, hz⟩ := I.list hq
  obtain ⟨j, h1, h2, h3, h4, h5⟩ := atI_get he
  obtain ⟨w, ew, rw'⟩ := r.get h2
  have hl := r.length
  have hn := line63
  have fin : EP X pins σ Q w s := ⟨z, H, I, rw', q⟩
  by_cases h0 : 0 ≤ i
  · have hj : i.toNat = j := by
      rw [seqIndex_of h0 h5] at h1
      exact Option.some.inj h1
    exact item_listR pl.isList h0 (by omega) (by rw [hj]; simpa using ew) fin hs
  · have hj : (i + (its.toArray.size : Int)).toNat = j := by
      rw [seqIndex_neg (by omega) h4] at h1
      rw [List.size_toArray, ← hl]
      exact Option.some.inj h1
    exact subscriptTail_builtinR (x := w) pl.isList.typeIs slot_list_getitem.lookup
      (wpAny_getItem_list_neg (Q := fun r s' => r = w ∧ EP X pins σ Q r s') pl.isList (by omega) (by rw [List.size_toArray] <;> omega) (by omega) (by rw [hj]; simpa using ew) ⟨rfl, fin⟩) hs
theorem ix_tup : IxR X (rIxT X.K) := by
  intro value slice pins s σ H x y v u Q I rx ry h hs
  obtain ⟨p, xs, i, z, rfl, rfl, hq, he, q⟩ := h
  cases rx
  obtain ⟨t, rfl⟩ := ry
  obtain ⟨its, r, pl, hz⟩ := I.tuple hq
  obtain ⟨j, h1, h2, h3, h4, h5⟩ := atI_get he
  obtain ⟨w, ew, rw'⟩ := r.get h2
  have hl := r.length
  have hn := line63
  have fin : EP X pins σ Q w s := ⟨z, H, I, rw', q⟩
  exact subscriptTail_builtinR (x := w) pl.typeIs slot_tuple_getitem.lookup
    (getItem_tuple (j := j) (Q := fun r s' => r = w ∧ EP X pins σ Q r s') pl (by omega) (by omega) (by rw [List.size_toArray, ← hl]; exact h1) (by simpa using ew) ⟨rfl, fin⟩) hs
theorem Inv.lst {pins : List (Addr × Obj)} {σ : St} {H : Hp} {s : Shared} {p : Addr} {xs : List V} (I : Inv X pins σ H s) (h : H p = some (.lst xs)) :
    ∃ (its : List Value) (n : Nat), Vals xs its ∧ s.heap.get? p = some { cls := .type "list", data := .seq its.toArray n } ∧ xs.length ≤ sizeLine := by
  obtain ⟨z, its, n, r, e⟩ := I.hok p _ h
  exact ⟨its, n, r, e, z⟩
def flatV : V → Bool
  | .non => true
  | .bl _ => true
  | .int _ => true
  | .str _ => true
  | _ => false
def eqV : V → V → Bool
  | .non, .non => true
  | .bl a, .bl b => a == b
  | .bl a, .int b => (if a then 1 else 0) == b
  | .int a, .bl b => a == (if b then 1 else 0)
  | .int a, .int b => a == b
  | .str a, .str b => a == b
  | _, _ => false
def inV (x : V) (xs : List V) : Bool := xs.any fun y => eqV y x
def rIn (K : PySem.W.Frag) (neg : Bool) : R2 := fun x y H Q => ∃ p xs, y = .ref p ∧ (SqL K H p xs ∨ SqT K H p xs) ∧ flatV x = true ∧ xs.all flatV = true ∧ Q (.bl (if neg then !inV x xs else inV x xs)) H
theorem call_len_seq : CallR X (.builtin "len") (fun xs H Q => ∃ p ys, xs = [.ref p] ∧ (SqL X.K H p ys ∨ SqT X.K H p ys) ∧ Q (.int ys.length) H) := by
  intro pins s σ H xs us Q I r h
  obtain ⟨p, ys, rfl, hq, q⟩ := h
  obtain ⟨u, rfl, rx⟩ := vals1 r
  cases rx
  have hn := line63
  rcases hq with hq | hq
  · obtain ⟨its, r', pl, hz⟩ := I.list hq
    have hlen := r'.length
    exact Calls.call_len_list pl.isList (by simp only [List.size_toArray] <;> omega) ⟨.int ys.length, H, I.tok _, ⟨s.toks + 1, by rw [List.size_toArray, hlen]⟩, q⟩
  · obtain ⟨its, r', pl, hz⟩ := I.tuple hq
    have hlen := r'.length
    exact len_tuple pl (by simp only [List.size_toArray] <;> omega) ⟨.int ys.length, H, I.tok _, ⟨s.toks + 1, by rw [List.size_toArray, hlen]⟩, q⟩
theorem CallR.or {f : Value} {r r' : List V → Hp → VK → Prop} (h : CallR X f r) (h' : CallR X f r') : CallR X f (fun xs H Q => r xs H Q ∨ r' xs H Q) := by
  intro pins s σ H xs us Q I rs q
  rcases q with q | q
  · exact h pins s σ H xs us Q I rs q
  · exact h' pins s σ H xs us Q I rs q
theorem call_list_of : CallR X (.type "list") (fun xs H Q => ∃ p ys, xs = [.ref p] ∧ (SqL X.K H p ys ∨ SqT X.K H p ys) ∧ ∀ l, H l = none → Q (.ref l) (upd H l (.lst ys))) := by
  intro pins s σ H xs us Q I r h
  obtain ⟨p, ys, rfl, hq, q⟩ := h
  obtain ⟨u, rfl, rx⟩ := vals1 r
  cases rx
  have fin : ∀ (its : List Value), Vals ys its → ys.length ≤ sizeLine → ∀ (h' : Heap) (c' : Nat), (∀ b o', s.heap.get? b = some o' → h'.get? b = some o') →
      h'.get? s.heap.objs.size = some { cls := .type "list", dict := none, data := .seq its.toArray c', slots := #[] } → EP X pins σ Q (.ref s.heap.objs.size) { s with heap := h' } := fun its r' hz h' c' kp e =>
    ⟨.ref s.heap.objs.size, _, I.laid (t' := s.toks) kp (Nat.le_refl _) (show ObjOk X.prog X.w _ h' _ (.lst ys) from ⟨hz, its, c', r', e⟩), rfl, q _ (I.hok.fresh (Nat.le_refl _))⟩
  rcases hq with hq | hq
  · obtain ⟨its, r', pl, hz⟩ := I.list hq
    have hlen := r'.length
    obtain ⟨o, ho, hc, n, hd⟩ := pl.isList
    exact call_list_seq p (.inl rfl) ho hc hd (fun h' c' kp e => fin its r' hz h' c' kp e) (by simp only [List.size_toArray] <;> omega)
  · obtain ⟨its, r', pl, hz⟩ := I.tuple hq
    have hlen := r'.length
    obtain ⟨o, ho, hc, n, hd⟩ := pl
    exact call_list_seq p (.inr rfl) ho hc hd (fun h' c' kp e => fin its r' hz h' c' kp e) (by simp only [List.size_toArray] <;> omega)
theorem call_tuple_of : CallR X (.type "tuple") (fun xs H Q => ∃ p ys, xs = [.ref p] ∧ ((SqL X.K H p ys ∧ ∀ l, H l = none → Q (.ref l) (upd H l (.tup ys))) ∨ (SqT X.K H p ys ∧ Q (.ref p) H))) := by
  intro pins s σ H xs us Q I r h
  obtain ⟨p, ys, rfl, h⟩ := h
  obtain ⟨u, rfl, rx⟩ := vals1 r
  cases rx
  rcases h with ⟨hq, q⟩ | ⟨hq, q⟩
  · obtain ⟨its, r', pl, hz⟩ := I.list hq
    have hlen := r'.length
    refine call_tuple_list pl.isList (fun h' kp => ?_) (by simp only [List.size_toArray] <;> omega)
    have I1 : Inv X pins σ H { s with heap := h' } := I.kept (t' := s.toks) kp
    have I2 : Inv X pins σ (upd H h'.objs.size (.tup ys)) { s with heap := h'.push { cls := .type "tuple", data := .seq its.toArray } } :=
      I1.laid (t' := s.toks) (fun b o e => Heap.get?_push_of_some _ e) (Nat.le_refl _) (show ObjOk X.prog X.w _ _ _ (.tup ys) from ⟨hz, its, r', IsTup.new _ _⟩)
    exact ⟨.ref h'.objs.size, _, I2, rfl, q _ (I1.hok.fresh (Nat.le_refl _))⟩
  · obtain ⟨its, r', pl, hz⟩ := I.tuple hq
    exact call_tuple_same pl ⟨.ref p, H, I, rfl, q⟩

def tyV (K : PySem.W.Frag) (T : String) (x : V) (H : Hp) : Prop := match x with
  | .str _ => T = "str"
  | .int _ => T = "int"
  | .ref p => (T = "list" ∧ ∃ xs, SqL K H p xs) ∨ (T = "tuple" ∧ ∃ o, K.lookup p = some o ∧ o.cls = .type "tuple" ∧ o.dict = none) ∨
      (T = "dict" ∧ ((∃ kvs, H p = some (.dK kvs)) ∨ ∃ kvs, H p = some (.dT kvs))) ∨ (T = "set" ∧ ∃ S n, H p = some (.set S n))
  | _ => False
theorem tyV_is {pins : List (Addr × Obj)} {σ : St} {H : Hp} {s : Shared} {T : String} {x : V} {v : Value} (I : Inv X pins σ H s) (r : RelV x v) (ty : tyV X.K T x H) :
    s.TypeIs v T ∧ ∀ a, v = .ref a → ∃ ob, s.heap.get? a = some ob ∧ ob.dict = none := by
  cases x with
  | str z =>
    obtain ⟨t, rfl⟩ := r
    cases (show T = "str" from ty)
    exact ⟨typeIs_str s z t, fun _ e => nomatch e⟩
  | int i =>
    obtain ⟨t, rfl⟩ := r
    cases (show T = "int" from ty)
    exact ⟨typeIs_int s i t, fun _ e => nomatch e⟩
  | ref p =>
    cases r
    rcases ty with ⟨rfl, xs, hq⟩ | ⟨rfl, o, hk, hc, hd⟩ | ⟨rfl, hk⟩ | ⟨rfl, S, n, hk⟩
    · obtain ⟨its, _, pl, _⟩ := I.list hq
      refine ⟨pl.isList.typeIs, fun a e => ?_⟩
      cases e
      obtain ⟨o, n, e, c, hd, _⟩ := pl
      exact ⟨o, e, hd⟩
    · refine ⟨⟨o, I.kIn p o hk, hc⟩, fun a e => ?_⟩
      cases e
      exact ⟨o, I.kIn _ o hk, hd⟩
    · have z : ∃ o, s.heap.get? p = some o ∧ o.ExactDict := by
        rcases hk with ⟨kvs, hk⟩ | ⟨kvs, hk⟩
        · obtain ⟨_, _, _, _, o, _, _, e, ex, _⟩ := I.hok p _ hk
          exact ⟨o, e, ex⟩
        · obtain ⟨_, _, _, _, o, _, _, e, ex, _⟩ := I.hok p _ hk
          exact ⟨o, e, ex⟩
      obtain ⟨o, e, ex⟩ := z
      refine ⟨⟨o, e, ex.1⟩, fun a e2 => ?_⟩
      cases e2
      exact ⟨o, e, ex.2.1⟩
    · obtain ⟨o, _, _, _, e, ex, _⟩ := I.hok p _ hk
      refine ⟨⟨o, e, ex.1⟩, fun a e2 => ?_⟩
      cases e2
      exact ⟨o, e, ex.2.1⟩
  | _ => exact False.elim ty
def tBM0 (K : PySem.W.Frag) (T : String) (r : V → List V → Hp → VK → Prop) (to : TE) : TE := fun σ H Q => to σ H fun x H1 => tyV K T x H1 ∧ r x [] H1 Q
def tBM (K : PySem.W.Frag) (T : String) (r : V → List V → Hp → VK → Prop) (to : TE) (t : TA) : TE := fun σ H Q => to σ H fun x H1 => tyV K T x H1 ∧ t σ H1 fun xs H2 => r x xs H2 Q
variable {o e : Expr} {es : List Expr} {to : TE} {t : TA} {name : Str} {apos cpos : Pos} {T id : String} {r : V → List V → Hp → VK → Prop}
theorem pe_bm0 (pa : PlainAttrs T) (slot : Slot T name id) (hty : typeOf (.builtin id) = pure (.type "method_descriptor")) (hm : MtR X id r) (ho : PE X o to)
    (hbase : attributeBase o name X.env (eval o X.env) = eval o X.env := by rfl) (hline : (apos.endLine == cpos.line) = true := by rfl) : PE X (.Call (.Attribute o name apos) [] [] cpos) (tBM0 X.K T r to) := by
  intro pins s σ H Q I h
  refine wpAny_Call_method0_late hbase hline (thn (ho pins s σ H _ I h) fun v s1 ⟨x, H1, I1, r1, ty, q1⟩ => ?_)
  obtain ⟨h1, h2⟩ := tyV_is I1 r1 ty
  exact ⟨T, id, pa, slot, hty, h1, h2, Calls.callWith_builtin rfl (PySem.evalArgs_none (hm pins s1 σ H1 x [] v [] Q I1 r1 .nil q1))⟩
theorem pe_bm (pa : PlainAttrs T) (slot : Slot T name id) (hty : typeOf (.builtin id) = pure (.type "method_descriptor")) (hm : MtR X id r) (ho : PE X o to) (ha : PA X (e :: es) t)
    (hbase : attributeBase o name X.env (eval o X.env) = eval o X.env := by rfl)
    (hfew : ((backTo cpos (starEach (e :: es) X.env)).all (fun x => !x.1) && (backToKw cpos (keywordEach [] X.env)).all (fun x => x.1.isSome)
      && decide ((e :: es).length + ([] : List Keyword).length + (if ([] : List Keyword).isEmpty then 0 else 1) < 30)) = true := by rfl)
    (hline : (apos.endLine == cpos.line) = true := by rfl) (hs : starEach (e :: es) X.env = (false, eval e X.env) :: starEach es X.env := by rfl) (hplain : (backTo cpos (starEach es X.env)).any (·.1) = false := by rfl) :
    PE X (.Call (.Attribute o name apos) (e :: es) [] cpos) (tBM X.K T r to t) := by
  intro pins s σ H Q I h
  refine wpAny_Call_method_late hbase hfew hline rfl (thn (ho pins s σ H _ I h) fun v s1 ⟨x, H1, I1, r1, ty, q1⟩ => ?_)
  obtain ⟨h1, h2⟩ := tyV_is I1 r1 ty
  refine ⟨T, id, pa, slot, hty, h1, h2, ?_⟩
  have hA := ha cpos pins s1 σ H1 _ I1 q1
  rw [hs] at hA ⊢
  refine Calls.callWith_builtin (by show (false || (backTo cpos (starEach es X.env)).any (·.1)) = false; rw [hplain] <;> rfl) (Calls.evalArgs_plain ?_)
  exact thn hA fun us s2 ⟨vs, H2, I2, r2, q2⟩ => hm pins s2 σ H2 x vs v us Q I2 r1 r2 q2
end
end L2
namespace L2
open PySem PySem.Spec PyProof.Rows
def MtM (X : Cx) (id : String) (r : V → List V → Hp → VK → Prop) : Prop :=
  ∀ (pins : List (Addr × Obj)) (s : Shared) (σ : St) (H : Hp) (x : V) (xs : List V) (v : Value) (us : List Value) (Q : VK), Inv X pins σ H s → RelV x v → Vals xs us → r x xs H Q →
    wpAny (model X.prog X.w) X.A (call (.builtin id) (v :: us)) (EP X pins σ Q) X.xe s

theorem Vals.one : ∀ {x : V} {us : List Value}, Vals [x] us → ∃ u, us = [u] ∧ RelV x u
  | _, _, .cons r .nil => ⟨_, rfl, r⟩
theorem Vals.two : ∀ {x y : V} {us : List Value}, Vals [x, y] us → ∃ u v, us = [u, v] ∧ RelV x u ∧ RelV y v
  | _, _, _, .cons r (.cons q .nil) => ⟨_, _, rfl, r, q⟩
theorem Vals.zero : ∀ {us : List Value}, Vals [] us → us = []
  | _, .nil => rfl
theorem Vals.reverse {xs : List V} {us : List Value} (h : Vals xs us) : Vals xs.reverse us.reverse := by
  induction h with
  | nil => exact .nil
  | cons r t ih => rw [List.reverse_cons, List.reverse_cons]; exact Vals.append ih (.cons r .nil)
section
variable {X : Cx} {pins : List (Addr × Obj)} {σ : St} {H : Hp} {s : Shared} {l b : Addr} {xs ys zs : List V}
theorem Inv.lset {its its' : List Value} {n : Nat} {f : Array Value → Array Value} {t' : Nat} (I : Inv X pins σ H s) (hH : H l = some (.lst xs))
    (e : s.heap.get? l = some { cls := .type "list", data := .seq its.toArray n }) (hf : f its.toArray = its'.toArray) (hv : Vals ys its') (hz : ys.length ≤ sizeLine) :
    Inv X pins σ (upd H l (.lst ys)) { s with heap := s.heap.update l (Obj.mapSeq f), toks := t' } := by
  have q := PySem.IsL.update e f
  rw [hf] at q
  refine I.write (x := l) (e := l) (by rw [hH]; exact trivial) (.inl rfl) (fun b' u hb hu => (Heap.get?_update_other s.heap (Obj.mapSeq f) (Ne.symm hb)).trans hu) ⟨_, q⟩ ?_
  exact ⟨hz, its', _, hv, q⟩
theorem Inv.lnew {its : List Value} {t' : Nat} (I : Inv X pins σ H s) (hv : Vals ys its) (hz : ys.length ≤ sizeLine) :
    Inv X pins σ (upd H s.heap.objs.size (.lst ys)) { s with heap := s.heap.push { cls := .type "list", data := .seq its.toArray }, toks := t' } :=
  I.laid (fun _ _ q => Heap.get?_push_of_some _ q) (Nat.le_refl _) ⟨hz, its, 0, hv, Heap.get?_push_size _ rfl⟩
theorem Inv.fresh (I : Inv X pins σ H s) : H s.heap.objs.size = none := I.hok.fresh (Nat.le_refl _)
theorem Inv.lstM (I : Inv X pins σ H s) (hH : H l = some (.lst xs)) : xs.length ≤ sizeLine ∧ ∃ (its : List Value) (n : Nat), Vals xs its ∧ xs.length = its.length ∧ s.heap.get? l = some { cls := .type "list", data := .seq its.toArray n } := by
  obtain ⟨z, its, n, r, e⟩ := I.hok l _ hH
  exact ⟨z, its, n, r, r.length, e⟩

theorem notLongL {n : Nat} (h : n ≤ sizeLine) : Builtin.List.listTooLong n = false := by
  unfold Builtin.List.listTooLong
  exact decide_eq_false (by omega)
end
section
variable {X : Cx}
def rAppend : V → List V → Hp → VK → Prop := fun x vs H Q => ∃ l xs y, x = .ref l ∧ vs = [y] ∧ H l = some (.lst xs) ∧ xs.length < sizeLine ∧ Q .non (upd H l (.lst (xs ++ [y])))
theorem mt_append : MtM X "list.append" rAppend := by
  intro pins s σ H x vs v us Q I rx rv h
  obtain ⟨l, xs, y, rfl, rfl, hH, hz, q⟩ := h
  cases rx
  obtain ⟨u, rfl, ru⟩ := rv.one
  obtain ⟨z, its, n, r, hl, e⟩ := I.lstM hH
  refine call_meets F.slot_list_append ⟨_, e, rfl⟩ F.entry_list_append (F.args_list_append_2 _ _) (PySem.list_append l its.toArray n u (by rw [List.size_toArray]; omega)) ⟨e, ?_⟩
  refine ⟨.non, _, I.lset (its' := its ++ [u]) hH e (by simp) (r.append (.cons ru .nil)) ?_, rfl, q⟩
  rw [List.length_append, List.length_singleton]
  omega

def rExtend : V → List V → Hp → VK → Prop := fun x vs H Q => ∃ l b xs zs, x = .ref l ∧ vs = [.ref b] ∧ H l = some (.lst xs) ∧ H b = some (.lst zs) ∧ xs.length + zs.length ≤ sizeLine ∧ Q .non (upd H l (.lst (xs ++ zs)))
theorem mt_extend : MtM X "list.extend" rExtend := by
  intro pins s σ H x vs v us Q I rx rv h
  obtain ⟨l, b, xs, zs, rfl, rfl, hH, hB, hz, q⟩ := h
  cases rx
  obtain ⟨u, rfl, ru⟩ := rv.one
  cases ru
  obtain ⟨z, its, n, r, hl, e⟩ := I.lstM hH
  obtain ⟨z2, its2, n2, r2, hl2, e2⟩ := I.lstM hB
  have hsz : its.toArray.size + its2.toArray.size ≤ sizeLine := by rw [List.size_toArray, List.size_toArray]; omega
  have hlong : ¬ (!its.toArray.isEmpty && Builtin.List.listTooLong (its.toArray.size + its2.toArray.size)) = true := by
    rw [notLongL hsz, Bool.and_false]
    exact Bool.false_ne_true
  refine call_meets F.slot_list_extend ⟨_, e, rfl⟩ F.entry_list_extend (F.args_list_extend_2 _ _)
    (AutoSeq1.list_extend_list_list_0 l its.toArray n b its2.toArray n2 hlong (by rw [List.size_toArray]; omega) (by omega)) ⟨e, e2, ?_⟩
  refine ⟨.non, _, I.lset (its' := its ++ its2) hH e (by simp) (r.append r2) ?_, rfl, q⟩
  rw [List.length_append]
  omega

def rCat : R2 := fun x y H Q => ∃ l b xs zs, x = .ref l ∧ y = .ref b ∧ H l = some (.lst xs) ∧ H b = some (.lst zs) ∧ xs.length + zs.length ≤ sizeLine ∧ ∀ p, H p = none → Q (.ref p) (upd H p (.lst (xs ++ zs)))
theorem op_cat : OpR X (binaryOp .Add) rCat := by
  intro pins s σ H x y v u Q I rx ry h
  obtain ⟨l, b, xs, zs, rfl, rfl, hH, hB, hz, q⟩ := h
  cases rx
  cases ry
  obtain ⟨z, its, n, r, hl, e⟩ := I.lstM hH
  obtain ⟨z2, its2, n2, r2, hl2, e2⟩ := I.lstM hB
  refine PySem.P.add_list e e2 ?_ (by rw [List.size_toArray, List.size_toArray]; omega)
  have ea : its.toArray ++ its2.toArray = (its ++ its2).toArray := by simp
  rw [ea]
  exact ⟨.ref _, _, I.lnew (t' := s.toks) (r.append r2) (by rw [List.length_append]; omega), rfl, q _ I.fresh⟩
end
section
variable {prog : Program} {w : World} {A : Around} {E : Value → Shared → Prop} {s : Shared}
end
section
variable {X : Cx}
end
end L2
namespace Att
open PySem PySem.W PySem.Calls PyProof.Rows
theorem ints_of_wellAll {P : Params} {h : Heap} : ∀ (ns : List Int) (vs : List Value), WellAll P h vs (ns.map WData.int) → IntsAre vs ns := by
  intro ns
  induction ns with
  | nil =>
    intro vs w
    rw [List.map_nil] at w
    cases w
    exact .nil
  | cons n ns ih =>
    intro vs w
    rw [List.map_cons] at w
    cases w with
    | cons a b =>
      cases a
      exact .cons _ _ (ih _ b)

theorem script_of {l : OpenLaw} {n : Nat} (hn : l.most = some n) {P : Params} {h : Heap} {args : List WData} {vals : List Value}
    (hpre : l.row.toRowW.claim.pre args = true) (hwl : WellAll P h vals args) :
    ∃ a vs ns, vals = [Value.ref a] ∧ args = [WData.list (ns.map WData.int)] ∧ h.get? a = some { cls := .type "list", data := .seq vs.toArray } ∧ IntsAre vs ns ∧ ns.length ≤ n := by
  have hsh : WShape.hasAll [] args [.list .int] = true := (pre_splitW hpre).1
  have hc : l.pre.holds [] { args := args } = true := (pre_splitW hpre).2
  obtain ⟨d, r, rfl, h1, h2⟩ := hasAllW_cons hsh
  obtain rfl := hasAllW_nil h2
  obtain ⟨xs, rfl, h3⟩ := hasW_list h1
  obtain ⟨ns, rfl⟩ := items_int h3
  have hlen : ns.length ≤ n := by
    unfold OpenLaw.pre at hc
    have h4 : (WTm.not (.lt (.lit (.int (n : Int))) (.len (.arg 0)))).holds [] { args := [.list (ns.map .int)] } = true := by
      have h4 := (holds_andW hc).1
      rw [hn] at h4
      exact h4
    have h5 := condW_of h4 (w_not (w_lt w_lit (w_len_list (w_arg rfl))))
    rw [List.length_map] at h5
    refine Nat.le_of_not_lt fun q => ?_
    have q' : (n : Int) < ((ns.length : Nat) : Int) := by omega
    first
      | (rw [decide_eq_true q'] at h5; exact absurd h5 (by decide))
      | (simp at h5; omega)
  cases hwl with
  | cons w1 w2 =>
    cases w2
    cases w1 with
    | list ho hall => exact ⟨_, _, ns, rfl, rfl, ho, ints_of_wellAll ns _ hall, hlen⟩

theorem post_true (l : OpenLaw) (args : List WData) : l.row.toRowW.claim.post args (.bool true) args = true :=
  postW_of (r := l.row.toRowW) (X := (true == true))
    (show WShape.has [] (.bool true) .bool = true by first | rfl | decide | simp [WShape.has, WShape.arms, WShape.armsAll])
    (show (WTm.eq .res (.lit (.bool true))).value [] { args := args, res := some (.bool true), after := args } = some (.bool (true == true)) from w_eq_bool (w_res rfl) w_lit) rfl

theorem attach_call {l : OpenLaw} {n : Nat} {q : Program} {loose : List Str} {XP : (Str → Option Value) → Heap → Prop} {YP : World → Heap → Prop} {d : DefRec}
    (hn : l.most = some n) (hdf : d.params.defaults = [])
    (call : ∀ (w : World) (s₀ s₁ : Shared) (mg mb : Str → Option Value) (fa : Addr) (o : Obj) (pm cd doc : Value) (a : Addr) (vs : List Value) (ns : List Int),
      Ground q loose [] XP w s₀ mg mb s₁.heap → YP w s₁.heap →
      s₁.heap.get? fa = some o → o.data = .func (docDef d.name d.params d.body d.scope pm cd doc) → s₁.heap.CodeRec cd d.name → mg d.name = some (.ref fa) →
      s₁.heap.get? a = some { cls := .type "list", data := .seq vs.toArray } → IntsAre vs ns → ns.length ≤ n → s₁.gens = #[] →
      codeAny (model l.prog w) callerA (.call (.ref fa) ⟨[.ref a], []⟩) (fun r s' => r = .ok (.ret (.bool true)) ∧ OldK s₁.heap s'.heap ∧ s'.os = s₁.os ∧ AllBare s'.gens) s₁) :
    WalkO q loose XP YP l.row.toRowW d [] (fun f vs => PySem.call f vs) := by
  intro w s₀ s₁ mg mb G Y fa o pm cd doc dV kV ho hd hcd hD hmg hg args vals as hpre hlay hrd hwl hlo
  obtain rfl : dV = .none := Dflts.none hD hdf
  obtain rfl : kV = .none := Dflts.noKw hD
  obtain ⟨a, vs, ns, rfl, rfl, hobj, hints, hlen⟩ := script_of hn hpre hwl
  refine enter_call (codeAny_mono (call w s₀ s₁ mg mb fa o pm cd doc a vs ns G Y ho (fd_plain hd) hcd hmg hobj hints hlen hg) fun r s' hq => ?_)
  obtain ⟨rfl, h2, h3, h4⟩ := hq
  exact ⟨.inl ⟨.bool true, .bool true, [], rfl, fun _ => rfl, .bool true, post_true l _, fun _ => ⟨List.Pairwise.nil, fun _ hm => (nomatch hm)⟩⟩, h2, h3, h4⟩

section
variable {prog : Program} {w : World} {A : Around} {E : Value → Shared → Prop} {s : Shared} {K : Frag}
end
end Att
namespace L2
open PySem PySem.Spec PyProof.Rows
theorem vals_ints : ∀ {vs : List Value} {ns : List Int}, IntsAre vs ns → Vals (ns.map V.int) vs
  | _, _, .nil => .nil
  | _, _, .cons n t h => .cons ⟨t, rfl⟩ (vals_ints h)

def Only (H : Hp) : Prop := ∀ b, H b = none ∨ ∃ o xs, H b = some (.frz o (.lst xs))

theorem law_call {P : Program} {w : World} {K : PySem.W.Frag} {mg mb : Str → Option Value} {CX : CXT} {k : Nat} {fa a : Addr} {fd : FuncData} {x : Str} {sp : Sp} {s₁ : Shared} {vs : List Value} {ns : List Int}
    (KX : K.In s₁.heap) (hns : s₁.heap.Ns mainGlobals mg) (hb : s₁.heap.Ns builtinsNs mb) (hbb : ∀ x : Str, x ≠ "__name__" → mb x = bootBuiltins x) (hlim : s₁.heap.NoLimit) (hg : s₁.gens = #[])
    (ha : s₁.heap.get? a = some { cls := .type "list", data := .seq vs.toArray }) (hi : IntsAre vs ns) (hl : ns.length ≤ sizeLine) (hr : Room k callerA)
    (F : ∀ base : Heap, K.In base → base.Ns mainGlobals mg → FnOk P w K mg base CX k fa fd [x] sp) (hbind : ∀ (s : Shared) (u : Value), BindsTo s fd ⟨[u], []⟩ [(x, u)])
    (hsp : ∀ H : Hp, Only H → SqL K H a (ns.map V.int) → sp [.ref a] H (fun v _ => v = .bl true) fun _ _ _ => False)
    (hCX : ∀ H e s', CX [] H s₁ (fun _ _ _ => False) e s' → False) :
    codeAny (model P w) callerA (.call (.ref fa) ⟨[.ref a], []⟩) (fun r s' => r = .ok (.ret (.bool true)) ∧ OldK s₁.heap s'.heap ∧ s'.os = s₁.os ∧ AllBare s'.gens) s₁ := by
  have rv := vals_ints hi
  have lenV := hi.length
  have core : ∀ H : Hp, Only H → SqL K H a (ns.map V.int) → HOk P w H s₁.heap → (∀ b, H b ≠ none → b = a) → (H a ≠ none → K.lookup a = none) →
      codeAny (model P w) callerA (.call (.ref fa) ⟨[.ref a], []⟩) (fun r s' => r = .ok (.ret (.bool true)) ∧ OldK s₁.heap s'.heap ∧ s'.os = s₁.os ∧ AllBare s'.gens) s₁ := by
    intro H hO hS hok hA hK
    have base_of : ∀ {b : Addr} {o : Obj}, s₁.heap.get? b = some o → H b = none → (hidT s₁.heap H).get? b = some o := fun e n => hidT_get e n
    have noA : ∀ {b : Addr} {o : Obj} {es : Array DictEntry} {ep : Nat}, s₁.heap.get? b = some o → o.data = .dict es ep → H b = none := fun {b o es ep} e d => by
      cases q : H b with
      | none => rfl
      | some u =>
        have e' : b = a := hA b (by rw [q]; simp)
        subst e'
        rw [ha] at e; cases e
        have d' : Data.seq vs.toArray _ = Data.dict es ep := d
        cases d'
    have nsK : ∀ {b : Addr} {m : Str → Option Value}, s₁.heap.Ns b m → (hidT s₁.heap H).Ns b m := fun {b m} ⟨o, es, ep, e, d, r⟩ => ⟨o, es, ep, base_of e (noA e d), d, r⟩
    have hKb : K.In (hidT s₁.heap H) := fun b o e => base_of (KX b o e) (by
      cases q : H b with
      | none => rfl
      | some u =>
        have e' : b = a := hA b (by rw [q]; simp)
        subst e'
        rw [hK (by rw [q]; simp)] at e; cases e)
    have hM : Mod K mg (hidT s₁.heap H) := ⟨hKb, nsK hns, ⟨mb, nsK hb, hbb⟩, let ⟨mc, h1, h2⟩ := hlim; ⟨mc, nsK h1, h2⟩⟩
    have e0 : Env0 P w K mg (hidT s₁.heap H) callerA [] s₁ H := ⟨rfl, hM, fun b o e => of_hidT e, Nat.le_of_eq (hidT_size _ _), trivial, fun b hb => absurd (show b ∈ ([] : List Addr) from hb) (by simp), hok, .of_eq hg⟩
    refine codeAny_mono ((F _ hKb (nsK hns)).run callerA [] s₁ H ⟨[.ref a], []⟩ [.ref a] [.ref a] _ _ hr e0 (hbind s₁ (.ref a)) (.cons rfl .nil) (hsp H hO hS)) fun r s' h => ?_
    cases r with
    | error e => exact (hCX H e s' h).elim
    | ok fl =>
      cases fl with
      | next => exact False.elim h
      | brk => exact False.elim h
      | cont => exact False.elim h
      | ret u =>
        obtain ⟨v, H', os, bare, un, hok', r', q⟩ := h
        have q' : v = .bl true := q
        subst q'
        obtain rfl : u = Value.bool true := r'
        refine ⟨rfl, OldK.of_keep fun b o e => ?_, os, bare⟩
        cases q : H b with
        | none => exact un.keep b o e q (by intro z; exact absurd (show b ∈ ([] : List Addr) from z) (by simp)) (by simp)
        | some u =>
          rcases hO b with z | ⟨ob, xs, z⟩
          · rw [q] at z; cases z
          · have z2 := un.frzs b ob _ z
            obtain ⟨e1, _⟩ := hok b _ z
            obtain ⟨e2, _⟩ := hok' b _ z2
            rw [e] at e1; cases e1
            exact e2
  cases hk : K.lookup a with
  | some o =>
    have e := KX a o hk
    rw [ha] at e
    cases e
    refine core (fun _ => none) (fun _ => .inl rfl) (.inr ⟨_, vs.toArray, _, hk, rfl, rfl, rfl, by rw [List.size_toArray, lenV]; exact hl, by simpa using rv⟩) (fun b u z => by have z' : (none : Option HO) = some u := z; cases z') (fun b z => absurd rfl z) fun z => absurd rfl z
  | none =>
    refine core (fun b => if b = a then some (.frz { cls := .type "list", data := .seq vs.toArray } (.lst (ns.map V.int))) else none) (fun b => ?_) (.inl (.inr ⟨{ cls := .type "list", data := .seq vs.toArray }, if_pos rfl⟩)) (fun b u z => ?_) (fun b z => ?_) fun _ => hk
    · by_cases hb : b = a
      · exact .inr ⟨_, _, if_pos hb⟩
      · exact .inl (if_neg hb)
    · by_cases hb : b = a
      · have z' := (if_pos hb).symm.trans z
        cases z'
        subst hb
        exact ⟨ha, by rw [List.length_map]; exact hl, vs, _, rv, ha⟩
      · have z' := (if_neg hb).symm.trans z
        cases z'
    · by_cases hb : b = a
      · exact hb
      · exact absurd (if_neg hb) z
end L2
namespace L2
open PySem PySem.Spec PyProof.Rows
theorem walk_of {l : PySem.W.OpenLaw} {n k : Nat} {q : Program} {loose : List Str} {XP : (Str → Option Value) → Heap → Prop} {YP : World → Heap → Prop} {d : DefRec} {K : Params → PySem.W.Frag} {CX : World → CXT} {sp : World → Sp} {x : Str}
    (hn : l.most = some n) (hn2 : n ≤ sizeLine) (hdf : d.params.defaults = []) (hr : Room k callerA)
    (hY : ∀ (w : World) (h : Heap), YP w h → (K w.params).In h)
    (F : ∀ (w : World) (mg : Str → Option Value) (fa : Addr) (h : Heap), (K w.params).In h → h.Ns mainGlobals mg → mg d.name = some (.ref fa) →
      ∃ fd : FuncData, (∀ (s : Shared) (u : Value), BindsTo s fd ⟨[u], []⟩ [(x, u)]) ∧
        ∀ base : Heap, (K w.params).In base → base.Ns mainGlobals mg → FnOk l.prog w (K w.params) mg base (CX w) k fa fd [x] (sp w))
    (hsp : ∀ (w : World) (H : Hp) (a : Addr) (ns : List Int), ns.length ≤ n → Only H → SqL (K w.params) H a (ns.map V.int) → sp w [.ref a] H (fun v _ => v = .bl true) fun _ _ _ => False)
    (hCX : ∀ (w : World) (H : Hp) (s : Shared) (e : Value) (s' : Shared), CX w [] H s (fun _ _ _ => False) e s' → False) :
    PySem.W.WalkO q loose XP YP l.row.toRowW d [] (fun f vs => PySem.call f vs) := by
  refine Att.attach_call hn hdf fun w s₀ s₁ mg mb fa o pm cd doc a vs ns G Y ho hd hcd hmg hobj hints hlen hg => ?_
  have KX := hY w _ Y
  obtain ⟨fd, hb, hF⟩ := F w mg fa _ KX G.T.g hmg
  exact law_call KX G.T.g G.T.b G.T.builtins G.T.nolimit hg hobj hints (Nat.le_trans hlen hn2) hr hF hb (fun H hO hS => hsp w H a ns hlen hO hS) fun H e s' => hCX w H s₁ e s'
end L2
namespace L2
open PySem PySem.Spec PyProof.Rows
def defArgs (s : Stmt) : Arguments := match s with
  | .FunctionDef _ a _ _ _ _ _ _ _ _ => a
  | _ => { posonlyargs := [], args := [], vararg := none, kwonlyargs := [], kw_defaults := [], kwarg := none, defaults := [] }
def defBody (s : Stmt) : List Stmt := match s with
  | .FunctionDef _ _ b _ _ _ _ _ _ _ => b
  | _ => []
def defScope (s : Stmt) : Scope := match s with
  | .FunctionDef _ _ _ _ _ _ sc _ _ _ => sc
  | _ => { kind := .function, names := [], isGenerator := false, isCoroutine := false }

abbrev CX0 : CXT := fun _ _ _ _ _ _ => False
abbrev E0 : XK := fun _ _ _ => False
theorem pass0 {X : Cx} : Passes CX0 X E0 := fun _ _ _ _ _ _ _ h => h.elim

structure Fun (K : PySem.W.Frag) (x qual : Str) (st : Stmt) (f : Addr) (fd : FuncData) : Prop where
  ex : ∃ (oc : Value) (od : Option Addr) (kV doc pm : Value) (an : Option Addr) (cdv ct : Value) (osl : Array (Option Value)),
    fd = PySem.W.fnOf x qual (defArgs st) (defBody st) (defScope st) .none kV doc pm an cdv ct ∧ K.lookup f = some ⟨oc, od, .func fd, osl⟩ ∧ PySem.W.codeIn K cdv qual = true
  kp : PySem.W.keepIn K (.ref f) = true
section
variable {P : Program} {w : World} {K : PySem.W.Frag} {mg : Str → Option Value} {base : Heap}
theorem Fun.ok {x qual : Str} {st : Stmt} {f : Addr} {fd : FuncData} {N ps : List Str} {k : Nat} {sp : Sp} (F : Fun K x qual st f fd) (S : FnScope N ps (defScope st)) (len : ∀ vs H Q E, sp vs H Q E → vs.length = ps.length)
    (hbody : ∀ (cdv : Value) (A : Around) (outer : List Env) (s : Shared) (H : Hp) (vs : List V) (Q : VK) (E : XK), Room k (A.deeper (envOfC qual (defScope st) s.heap.objs.size f cdv)) → sp vs H Q E →
      ∃ t, PSs (cxOf CX0 P w K mg base N qual (defScope st) f cdv A outer s H E).nox (defBody st) t ∧ t { nx := fun _ H' => Q .non H', rt := Q } (start N vs) H) : FnOk P w K mg base CX0 (k + 1) f fd ps sp := by
  obtain ⟨oc, od, kV, doc, pm, an, cdv, ct, osl, rfl, lk, hcd⟩ := F.ex
  refine fn_of lk hcd S len fun A outer s H vs Q E hr hsp => ?_
  obtain ⟨t, h, q⟩ := hbody cdv A outer s H vs Q E hr hsp
  exact ⟨t, h.nox, q⟩
theorem Fun.binds {x qual : Str} {st : Stmt} {f : Addr} {fd : FuncData} {ps : List Str} (F : Fun K x qual st f fd)
    (h : ∀ (kV doc pm : Value) (an : Option Addr) (cdv ct : Value) (us : List Value), us.length = ps.length → bindArgs (PySem.W.fnOf x qual (defArgs st) (defBody st) (defScope st) .none kV doc pm an cdv ct) ⟨us, []⟩ = pure (ps.zip us)) : Binds K fd ps [] := by
  obtain ⟨oc, od, kV, doc, pm, an, cdv, ct, osl, rfl, lk, hcd⟩ := F.ex
  exact .all (h kV doc pm an cdv ct)
theorem fun_mk {x qual : Str} {st : Stmt} {f : Addr} {oc : Value} {od an : Option Addr} {osl : Array (Option Value)} {kV doc pm cdv ct : Value} (l : K.lookup f = some ⟨oc, od, .func (PySem.W.fnOf x qual (defArgs st) (defBody st) (defScope st) .none kV doc pm an cdv ct), osl⟩)
    (c : PySem.W.codeIn K cdv qual = true) (k : PySem.W.keepIn K (.ref f) = true) : Fun K x qual st f (PySem.W.fnOf x qual (defArgs st) (defBody st) (defScope st) .none kV doc pm an cdv ct) := ⟨⟨oc, od, kV, doc, pm, an, cdv, ct, osl, rfl, l, c⟩, k⟩
end
theorem hu_of {A : Around} {k : Nat} (hr : Room k A) : A.units + 1 < cLine := Nat.lt_of_le_of_lt (Nat.add_le_add_left (by decide : 1 ≤ 64) _) hr.units
section
variable {X : Cx}
theorem pv (i : Nat) {x : Str} {pos : Pos} (hN : X.N[i]? = some x := by rfl) (hv : Vis X.env.scope x := by first | exact Or.inl rfl | exact Or.inr (Or.inl rfl) | exact Or.inr (Or.inr rfl)) (hd : (x == ("__debug__" : Str)) = false := by decide)
    (hcd : (x == ("__classdict__" : Str)) = false := by decide) : PE X (.Name x pos) (tVar i) := pe_var hN hv hd hcd
end
theorem iteF {A B : Prop} (h : B) : if false = true then A else B := by
  rw [if_neg Bool.false_ne_true]
  exact h
theorem iteT {A B : Prop} (h : A) : if true = true then A else B := by
  rw [if_pos rfl]
  exact h
theorem ite2 {c A B : Prop} [Decidable c] (h1 : c → A) (h2 : ¬ c → B) : if c then A else B := by
  by_cases h : c
  · rw [if_pos h]
    exact h1 h
  · rw [if_neg h]
    exact h2 h
def Same (H H' : Hp) : Prop := ∀ b o, H b = some o → H' b = some o
theorem Same.refl (H : Hp) : Same H H := fun _ _ h => h
theorem Same.trans {H H1 H2 : Hp} (a : Same H H1) (b : Same H1 H2) : Same H H2 := fun c o h => b c o (a c o h)
theorem Same.free {H H' : Hp} (e : Same H H') {l : Addr} (h : H' l = Option.none) : H l = Option.none := by
  cases q : H l with
  | none => rfl
  | some o =>
    rw [e l o q] at h
    cases h
theorem Same.seq {K : PySem.W.Frag} {H H' : Hp} {a : Addr} {xs : List V} (e : Same H H') (h : SqL K H a xs) : SqL K H' a xs := by
  rcases h with (h | ⟨o, h⟩) | h
  · exact .inl (.inl (e _ _ h))
  · exact .inl (.inr ⟨o, e _ _ h⟩)
  · exact .inr h

end L2
set_option Elab.async false
set_option linter.all false
set_option maxRecDepth 100000
set_option maxHeartbeats 1000000
namespace Srt
open PySem PySem.W PyProof.Rows
structure Ord (lt : Nat → Nat → Bool) : Prop where
  asym : ∀ a b, lt a b = true → lt b a = false
  tr : ∀ a b c, lt b a = false → lt c b = false → lt c a = false
theorem Ord.refl {lt : Nat → Nat → Bool} (O : Ord lt) (a : Nat) : lt a a = false := by
  cases e : lt a a with
  | false => rfl
  | true => exact (O.asym a a e).symm.trans e |>.symm
theorem Ord.up {lt : Nat → Nat → Bool} (O : Ord lt) {a b c : Nat} (h : lt a b = true) (h2 : lt c b = false) : lt a c = true := by
  cases e : lt a c with
  | true => rfl
  | false =>
    have := O.tr b c a h2 e
    rw [h] at this
    cases this
def Tri {α : Type} (lt : Nat → Nat → Bool) (N : Nat) (Post : α → Prop) : KasT α → Prop
  | .ret a => Post a
  | .ask i j k => i < N ∧ j < N ∧ Tri lt N Post (k (lt i j))
variable {lt : Nat → Nat → Bool} {N : Nat}
theorem tri_bind {α β : Type} {Post : β → Prop} {f : α → KasT β} : ∀ {t : KasT α}, Tri lt N (fun a => Tri lt N Post (f a)) t → Tri lt N Post (t.bind f)
  | .ret a, h => h
  | .ask i j k, h => ⟨h.1, h.2.1, tri_bind h.2.2⟩
theorem tri_mono {α : Type} {P Q : α → Prop} (hPQ : ∀ a, P a → Q a) : ∀ {t : KasT α}, Tri lt N P t → Tri lt N Q t
  | .ret a, h => hPQ a h
  | .ask i j k, h => ⟨h.1, h.2.1, tri_mono hPQ h.2.2⟩
theorem tri_wp {α : Type} {cmp : Nat → Nat → (Bool → Shared → Prop) → Shared → Prop} {G : Shared → Prop} {Post : α → Prop} {Q : α → Shared → Prop}
    (hc : ∀ i j (R : Bool → Shared → Prop) s, i < N → j < N → G s → (∀ s', G s' → R (lt i j) s') → cmp i j R s) (hQ : ∀ a s, Post a → G s → Q a s) : ∀ {t : KasT α} {s : Shared}, Tri lt N Post t → G s → t.kasWp cmp Q s
  | .ret a, s, h, g => hQ a s h g
  | .ask i j k, s, h, g => hc i j _ s h.1 h.2.1 g fun s' g' => tri_wp hc hQ h.2.2 g'
def g (p : Array Nat) (k : Nat) : Nat := p.getD k 0
def Pm (N : Nat) (p : Array Nat) : Prop := p.toList.Perm (List.range N)
theorem Pm.size {p : Array Nat} (h : Pm N p) : p.size = N := by
  have := h.length_eq
  rw [Array.length_toList, List.length_range] at this
  exact this
theorem g_some {p : Array Nat} (k : Nat) : g p k = (p[k]?).getD 0 := by
  unfold g
  rw [Array.getD_eq_getD_getElem?]
theorem Pm.bd {p : Array Nat} (h : Pm N p) {k : Nat} (hk : k < N) : g p k < N := by
  have hs := h.size
  have : p[k]? = some (p[k]'(by omega)) := Array.getElem?_eq_getElem _
  rw [g_some, this]
  have m : p[k]'(by omega) ∈ p.toList := Array.mem_toList_iff.mpr (Array.getElem_mem _)
  exact List.mem_range.mp (h.mem_iff.mp m)
theorem Pm.of {p q : Array Nat} (h : Pm N p) (e : q.Perm p) : Pm N q := (Array.perm_iff_toList_perm.mp e).trans h
theorem Pm.rev {p : Array Nat} (h : Pm N p) (i j : Nat) : Pm N (kas_rev p i j) := h.of (mirror_perm _ _ _ _)
theorem g_rev {p : Array Nat} {i j : Nat} (hj : j ≤ p.size) (k : Nat) : g (kas_rev p i j) k = if i ≤ k ∧ k < j then g p (i + j - 1 - k) else g p k := by
  rw [g_some]
  unfold kas_rev
  rw [getElem?_mirror_all hj]
  split <;> rw [g_some]
theorem g_bub {p : Array Nat} {src d : Nat} (hs : src < p.size) (hd : d ≤ src) (k : Nat) : g (bubble p src d) k = if k = src - d then g p src else if src - d < k ∧ k ≤ src then g p (k - 1) else g p k := by
  rw [g_some, getElem?_bubble hs d hd]
  split
  · rw [g_some]
  · split <;> rw [g_some]
def Up (lt : Nat → Nat → Bool) (p : Array Nat) (n : Nat) : Prop := ∀ i j, i ≤ j → j < n → lt (g p j) (g p i) = false
def Dn (lt : Nat → Nat → Bool) (p : Array Nat) (n : Nat) : Prop := ∀ i j, i ≤ j → j < n → lt (g p i) (g p j) = false
theorem up_succ (O : Ord lt) {p : Array Nat} {n : Nat} (h0 : 1 ≤ n) (h : Up lt p n) (e : lt (g p n) (g p (n - 1)) = false) : Up lt p (n + 1) := by
  intro i j hij hj
  by_cases q : j < n
  · exact h i j hij q
  · have ej : j = n := by omega
    subst ej
    by_cases qi : i = j
    · subst qi
      exact O.refl _
    · exact O.tr _ _ _ (h i (j - 1) (by omega) (by omega)) e
theorem dn_succ (O : Ord lt) {p : Array Nat} {n : Nat} (h0 : 1 ≤ n) (h : Dn lt p n) (e : lt (g p (n - 1)) (g p n) = false) : Dn lt p (n + 1) := by
  intro i j hij hj
  by_cases q : j < n
  · exact h i j hij q
  · have ej : j = n := by omega
    subst ej
    by_cases qi : i = j
    · subst qi
      exact O.refl _
    · exact O.tr _ _ _ e (h i (j - 1) (by omega) (by omega))
theorem up_rev {p : Array Nat} {n : Nat} (hn : n ≤ p.size) (h : Dn lt p n) : Up lt (kas_rev p 0 n) n := by
  intro i j hij hj
  rw [g_rev hn, g_rev hn, if_pos ⟨Nat.zero_le _, hj⟩, if_pos ⟨Nat.zero_le _, by omega⟩]
  exact h _ _ (by omega) (by omega)
theorem t_asc (O : Ord lt) {p : Array Nat} (hp : Pm N p) : ∀ (f n : Nat), 1 ≤ n → n + f ≤ N → Up lt p n → Tri lt N (fun m => n ≤ m ∧ m ≤ n + f ∧ Up lt p m ∧ (m < n + f → lt (g p m) (g p (m - 1)) = true)) (kas_asc p f n)
  | 0, n, h1, h2, h => ⟨Nat.le_refl _, Nat.le_refl _, h, fun q => absurd q (by omega)⟩
  | f + 1, n, h1, h2, h => by
    refine ⟨Pm.bd hp (by omega), Pm.bd hp (by omega), ?_⟩
    show Tri lt N _ (if lt (g p n) (g p (n - 1)) = true then .ret n else kas_asc p f (n + 1))
    by_cases e : lt (g p n) (g p (n - 1)) = true
    · rw [if_pos e]
      exact ⟨Nat.le_refl _, by omega, h, fun _ => e⟩
    · rw [if_neg e]
      refine tri_mono (fun m hm => ?_) (t_asc O hp f (n + 1) (by omega) (by omega) (up_succ O h1 h (by simpa using e)))
      exact ⟨by omega, by omega, hm.2.2.1, fun q => hm.2.2.2 (by omega)⟩
def Eqv (lt : Nat → Nat → Bool) (p : Array Nat) (n q : Nat) : Prop := ∀ k, n - 1 - q ≤ k → k < n → lt (g p k) (g p (n - 1)) = false ∧ lt (g p (n - 1)) (g p k) = false
theorem dn_block (O : Ord lt) {p : Array Nat} {n q : Nat} (hn : n ≤ p.size) (hq : q + 1 ≤ n) (h : Dn lt p n) (he : Eqv lt p n q) : Dn lt (kas_rev p (n - (q + 1)) n) n := by
  intro i j hij hj
  rw [g_rev hn, g_rev hn]
  by_cases bi : n - (q + 1) ≤ i
  · rw [if_pos ⟨bi, by omega⟩, if_pos ⟨by omega, hj⟩]
    obtain ⟨a1, a2⟩ := he (n - (q + 1) + n - 1 - i) (by omega) (by omega)
    obtain ⟨b1, b2⟩ := he (n - (q + 1) + n - 1 - j) (by omega) (by omega)
    exact O.tr _ _ _ b2 a1
  · rw [if_neg (by omega)]
    by_cases bj : n - (q + 1) ≤ j
    · rw [if_pos ⟨bj, hj⟩]
      exact h _ _ (by omega) (by omega)
    · rw [if_neg (by omega)]
      exact h _ _ hij hj
theorem t_desc (O : Ord lt) : ∀ (f : Nat) (p : Array Nat) (n q : Nat), Pm N p → 1 ≤ n → n + f ≤ N → q + 1 ≤ n → Dn lt p n → Eqv lt p n q →
    Tri lt N (fun r => Pm N r.1 ∧ n ≤ r.2.1 ∧ r.2.1 ≤ n + f ∧ r.2.2 + 1 ≤ r.2.1 ∧ Dn lt r.1 r.2.1 ∧ Eqv lt r.1 r.2.1 r.2.2) (kas_desc f p n q)
  | 0, p, n, q, hp, h1, h2, hq, h, he => ⟨hp, Nat.le_refl _, Nat.le_refl _, hq, h, he⟩
  | f + 1, p, n, q, hp, h1, h2, hq, h, he => by
    have hs := hp.size
    refine ⟨Pm.bd hp (by omega), Pm.bd hp (by omega), ?_⟩
    show Tri lt N _ (if lt (g p n) (g p (n - 1)) = true then (if q > 0 then kas_desc f (kas_rev p (n - (q + 1)) n) (n + 1) 0 else kas_desc f p (n + 1) 0) else .ask (g p (n - 1)) (g p n) fun d => if d = true then .ret (p, n, q) else kas_desc f p (n + 1) (q + 1))
    have one : ∀ p' : Array Nat, Eqv lt p' (n + 1) 0 := fun p' k k1 k2 => by
      have : k = n := by omega
      subst this
      exact ⟨O.refl _, O.refl _⟩
    by_cases e : lt (g p n) (g p (n - 1)) = true
    · rw [if_pos e]
      have e' := O.asym _ _ e
      by_cases q0 : q > 0
      · rw [if_pos q0]
        have d1 := dn_block O (by omega) hq h he
        have d2 : Dn lt (kas_rev p (n - (q + 1)) n) (n + 1) := by
          refine dn_succ O h1 d1 ?_
          rw [g_rev (by omega), g_rev (by omega), if_pos ⟨by omega, by omega⟩, if_neg (by omega)]
          obtain ⟨a1, a2⟩ := he (n - (q + 1) + n - 1 - (n - 1)) (by omega) (by omega)
          exact O.tr _ _ _ e' a1
        refine tri_mono (fun r hr => ?_) (t_desc O f _ (n + 1) 0 (hp.rev _ _) (by omega) (by omega) (by omega) d2 (one _))
        exact ⟨hr.1, by omega, by omega, hr.2.2.2⟩
      · rw [if_neg q0]
        refine tri_mono (fun r hr => ?_) (t_desc O f p (n + 1) 0 hp (by omega) (by omega) (by omega) (dn_succ O h1 h e') (one _))
        exact ⟨hr.1, by omega, by omega, hr.2.2.2⟩
    · rw [if_neg e]
      have e1 : lt (g p n) (g p (n - 1)) = false := by simpa using e
      refine ⟨Pm.bd hp (by omega), Pm.bd hp (by omega), ?_⟩
      show Tri lt N _ (if lt (g p (n - 1)) (g p n) = true then .ret (p, n, q) else kas_desc f p (n + 1) (q + 1))
      by_cases e2 : lt (g p (n - 1)) (g p n) = true
      · rw [if_pos e2]
        exact ⟨hp, Nat.le_refl _, (by show n ≤ n + (f + 1); omega), hq, h, he⟩
      · rw [if_neg e2]
        have e3 : lt (g p (n - 1)) (g p n) = false := by simpa using e2
        refine tri_mono (fun r hr => ?_) (t_desc O f p (n + 1) (q + 1) hp (by omega) (by omega) (by omega) (dn_succ O h1 h e3) fun k k1 k2 => ?_)
        · exact ⟨hr.1, by omega, by omega, hr.2.2.2⟩
        · show lt (g p k) (g p n) = false ∧ lt (g p n) (g p k) = false
          by_cases kn : k = n
          · subst kn
            exact ⟨O.refl _, O.refl _⟩
          · obtain ⟨a1, a2⟩ := he k (by omega) (by omega)
            exact ⟨O.tr _ _ _ e3 a1, O.tr _ _ _ a2 e1⟩
theorem t_tail (O : Ord lt) {p : Array Nat} {n : Nat} (hp : Pm N p) (h1 : 1 ≤ n) (hn : n ≤ N) (h : Dn lt p n) : Tri lt N (fun r => Pm N r.2 ∧ 1 ≤ r.1 ∧ r.1 ≤ N ∧ Up lt r.2 r.1) (kas_tail3 n N p) := by
  unfold kas_tail3
  refine tri_bind (tri_mono (fun m hm => ?_) (t_asc O (hp.rev 0 n) (N - n) n h1 (by omega) (up_rev (by rw [hp.size]; exact hn) h)))
  exact ⟨hp.rev 0 n, by omega, by omega, hm.2.2.1⟩
theorem t_descPart (O : Ord lt) {p : Array Nat} {n : Nat} (hp : Pm N p) (hn : n + 1 ≤ N) (h : Dn lt p (n + 1)) : Tri lt N (fun r => Pm N r.2 ∧ 1 ≤ r.1 ∧ r.1 ≤ N ∧ Up lt r.2 r.1) (kas_descPart n N p) := by
  unfold kas_descPart
  refine tri_bind (tri_mono (fun r hr => ?_) (t_desc O (N - (n + 1)) p (n + 1) 0 hp (by omega) (by omega) (by omega) h fun k k1 k2 => ?_))
  · obtain ⟨a1, a2, a3, a4, a5, a6⟩ := hr
    split
    · exact t_tail O (a1.rev _ _) (by omega) (by omega) (dn_block O (by rw [a1.size]; omega) a4 a5 a6)
    · exact t_tail O a1 (by omega) (by omega) a5
  · have : k = n := by omega
    subst this
    exact ⟨O.refl _, O.refl _⟩
theorem t_count (O : Ord lt) {p : Array Nat} (hp : Pm N p) (hN : 1 ≤ N) : Tri lt N (fun r => Pm N r.2 ∧ 1 ≤ r.1 ∧ r.1 ≤ N ∧ Up lt r.2 r.1) (kas_count N p) := by
  unfold kas_count
  have u1 : Up lt p 1 := fun i j hij hj => by
    have : i = 0 := by omega
    have : j = 0 := by omega
    subst_vars
    exact O.refl _
  refine tri_bind (tri_mono (fun n hn => ?_) (t_asc O hp (N - 1) 1 (Nat.le_refl _) (by omega) u1))
  obtain ⟨b1, b2, b3, b4⟩ := hn
  by_cases e : (n == N) = true
  · rw [if_pos e]
    exact ⟨hp, b1, by omega, b3⟩
  · rw [if_neg e]
    have e' : n ≠ N := by simpa using e
    have l1 := b4 (by omega)
    by_cases n1 : n > 1
    · rw [if_pos n1]
      refine ⟨Pm.bd hp (by omega), Pm.bd hp (by omega), ?_⟩
      show Tri lt N _ (if lt (g p 0) (g p (n - 1)) = true then .ret (n, p) else kas_descPart n N (kas_rev p 0 n))
      by_cases e2 : lt (g p 0) (g p (n - 1)) = true
      · rw [if_pos e2]
        exact ⟨hp, b1, by omega, b3⟩
      · rw [if_neg e2]
        have e3 : lt (g p 0) (g p (n - 1)) = false := by simpa using e2
        have alike : ∀ i j, i < n → j < n → lt (g p i) (g p j) = false := fun i j hi hj =>
          O.tr (g p j) (g p 0) (g p i) (O.tr _ _ _ (b3 j (n - 1) (by omega) (by omega)) e3) (b3 0 i (Nat.zero_le _) hi)
        have hs := hp.size
        refine t_descPart O (hp.rev 0 n) (by omega) (dn_succ O (by omega) (fun i j hij hj => ?_) ?_)
        · rw [g_rev (by omega), g_rev (by omega), if_pos ⟨Nat.zero_le _, by omega⟩, if_pos ⟨Nat.zero_le _, hj⟩]
          exact alike _ _ (by omega) (by omega)
        · rw [g_rev (by omega), g_rev (by omega), if_pos ⟨Nat.zero_le _, by omega⟩, if_neg (by omega)]
          exact O.tr _ _ _ (O.asym _ _ l1) (alike _ _ (by omega) (by omega))
    · rw [if_neg n1]
      have en : n = 1 := by omega
      subst en
      refine t_descPart O hp (by omega) (dn_succ O (Nat.le_refl _) (fun i j hij hj => ?_) (O.asym _ _ l1))
      have : i = 0 := by omega
      have : j = 0 := by omega
      subst_vars
      exact O.refl _
theorem t_place (O : Ord lt) {p : Array Nat} {k : Nat} (hp : Pm N p) (hk : k < N) (h : Up lt p k) : ∀ (f l r : Nat), l ≤ r → r ≤ k → r - l ≤ f → (∀ i, i < l → lt (g p k) (g p i) = false) → (∀ i, r ≤ i → i < k → lt (g p k) (g p i) = true) →
    Tri lt N (fun m => m ≤ k ∧ (∀ i, i < m → lt (g p k) (g p i) = false) ∧ ∀ i, m ≤ i → i < k → lt (g p k) (g p i) = true) (kas_place p k f l r)
  | 0, l, r, h1, h2, h3, a, b => by
    have : l = r := by omega
    subst this
    exact ⟨h2, a, b⟩
  | f + 1, l, r, h1, h2, h3, a, b => by
    show Tri lt N _ (if l ≥ r then .ret l else .ask (p.getD k 0) (p.getD ((l + r) / 2) 0) fun c => if c = true then kas_place p k f l ((l + r) / 2) else kas_place p k f ((l + r) / 2 + 1) r)
    by_cases e : l ≥ r
    · rw [if_pos e]
      have : l = r := by omega
      subst this
      exact ⟨h2, a, b⟩
    · rw [if_neg e]
      refine ⟨Pm.bd hp hk, Pm.bd hp (by omega), ?_⟩
      show Tri lt N _ (if lt (g p k) (g p ((l + r) / 2)) = true then kas_place p k f l ((l + r) / 2) else kas_place p k f ((l + r) / 2 + 1) r)
      by_cases c : lt (g p k) (g p ((l + r) / 2)) = true
      · rw [if_pos c]
        refine t_place O hp hk h f l ((l + r) / 2) (by omega) (by omega) (by omega) a fun i i1 i2 => ?_
        by_cases q : r ≤ i
        · exact b i q i2
        · exact O.up c (h _ _ i1 i2)
      · rw [if_neg c]
        have c' : lt (g p k) (g p ((l + r) / 2)) = false := by simpa using c
        refine t_place O hp hk h f ((l + r) / 2 + 1) r (by omega) h2 (by omega) (fun i i1 => ?_) b
        exact O.tr _ _ _ (h i ((l + r) / 2) (by omega) (by omega)) c'
theorem t_bin (O : Ord lt) : ∀ (f : Nat) (p : Array Nat) (k : Nat), Pm N p → k + f ≤ N → Up lt p k → Tri lt N (fun q => Pm N q ∧ Up lt q (k + f)) (kas_bin f p k)
  | 0, p, k, hp, _, h => ⟨hp, h⟩
  | f + 1, p, k, hp, hk, h => by
    have hs := hp.size
    show Tri lt N _ ((kas_place p k k 0 k).bind fun l => kas_bin f (bubble p k (k - l)) (k + 1))
    refine tri_bind (tri_mono (fun l hl => ?_) (t_place O hp (by omega) h k 0 k (Nat.zero_le _) (Nat.le_refl _) (by omega) (fun i hi => absurd hi (by omega)) fun i h1 h2 => absurd h1 (by omega)))
    obtain ⟨l1, l2, l3⟩ := hl
    have el : k - (k - l) = l := by omega
    have hb : ∀ i, g (bubble p k (k - l)) i = if i = l then g p k else if l < i ∧ i ≤ k then g p (i - 1) else g p i := fun i => by
      rw [g_bub (by omega) (by omega), el]
    have u : Up lt (bubble p k (k - l)) (k + 1) := by
      intro i j hij hj
      rw [hb, hb]
      by_cases jl : j = l
      · rw [if_pos jl]
        by_cases il : i = l
        · rw [if_pos il]
          exact O.refl _
        · rw [if_neg il, if_neg (by omega)]
          exact l2 i (by omega)
      · rw [if_neg jl]
        by_cases j2 : l < j ∧ j ≤ k
        · rw [if_pos j2]
          by_cases il : i = l
          · rw [if_pos il]
            exact O.asym _ _ (l3 (j - 1) (by omega) (by omega))
          · rw [if_neg il]
            by_cases i2 : l < i ∧ i ≤ k
            · rw [if_pos i2]
              exact h _ _ (by omega) (by omega)
            · rw [if_neg i2]
              exact h _ _ (by omega) (by omega)
        · rw [if_neg j2, if_neg (by omega), if_neg (by omega)]
          exact h _ _ hij (by omega)
    refine tri_mono (fun q hq => ?_) (t_bin O f _ (k + 1) (hp.of (bubble_perm _ _ _)) (by omega) u)
    rw [show k + (f + 1) = k + 1 + f by omega]
    exact hq
theorem t_sort (O : Ord lt) (hN : 1 ≤ N) : Tri lt N (fun p => Pm N p ∧ Up lt p N) (kas_sort N) := by
  unfold kas_sort
  have h0 : Pm N (List.toArray (List.range N)) := by
    unfold Pm
    simp
  refine tri_bind (tri_mono (fun r hr => ?_) (t_count O h0 hN))
  obtain ⟨a1, a2, a3, a4⟩ := hr
  by_cases e : r.1 < N
  · rw [if_pos e]
    have em : max r.1 1 = r.1 := by omega
    rw [em]
    have := t_bin O (N - r.1) r.2 r.1 a1 (by omega) a4
    rw [show r.1 + (N - r.1) = N by omega] at this
    exact this
  · rw [if_neg e]
    have : r.1 = N := by omega
    rw [this] at a4
    exact ⟨a1, a4⟩
end Srt
set_option Elab.async false
set_option linter.all false
set_option maxRecDepth 100000
namespace L2
open PySem
section
variable {M : Model} {prog : Program} {w : World} {A : Around} {E : Value → Shared → Prop} {h : Heap} {g : Array GenState} {d : Drawn} {t : Nat} {os : OsState}
variable {nm q : Str} {C N : Addr} {bs bm bmB : List Value} {hdct : Bool} {sn : List Str} {sub : List Value} {ab : Bool} {col : Option Bool} {dd : Option Addr} {k0 k1 k2 k3 k5 : Option Value} {B newId initId : String}
structure Line (B : String) (bm : List Value) : Prop where
  own : bm.contains (.type B) = true
  top : bm.contains (.type "BaseException") = true
  attr : bm.contains (.type "AttributeError") = false
  name : bm.contains (.type "NameError") = false
theorem Line.cons {C : Addr} (l : Line B bm) : Line B (.ref C :: bm) :=
  ⟨by rw [List.contains_cons, l.own, Bool.or_true], by rw [List.contains_cons, l.top, Bool.or_true], by rw [List.contains_cons, l.attr]; rfl, by rw [List.contains_cons, l.name]; rfl⟩

end
end L2
set_option Elab.async false
set_option linter.all false
set_option maxRecDepth 100000
set_option maxHeartbeats 1000000
namespace L2
section
open PySem
variable {prog : Program} {w : World} {A : Around} {E : Value → Shared → Prop} {h : Heap} {g : Array GenState} {d : Drawn} {t : Nat} {os : OsState}
variable {nm q : Str} {C N : Addr} {bs bm bmB : List Value} {hdct : Bool} {sn : List Str} {sub : List Value} {ab : Bool} {col : Option Bool} {dd : Option Addr} {k0 k1 k2 k3 k5 : Option Value} {B newId nid initId : String}
end
open PySem PySem.Spec PyProof.Rows
section
variable {X : Cx} {CX : CXT} {k : Nat} {f C : Addr} {fd : FuncData} {ps : List Str} {sp : Sp} {E : XK} {x : Str} {p pos apos : Pos} {e : Expr} {es : List Expr} {t : TA}
end
end L2
set_option Elab.async false
set_option linter.all false
set_option maxRecDepth 100000
set_option maxHeartbeats 1000000
namespace L2
open PySem PySem.Spec PyProof.Rows
section
variable {X : Cx} {C fI : Addr} {E : XK} {pos : Pos} {ce : Expr} {te : TE}
end
end L2
set_option Elab.async false
set_option linter.all false
set_option maxRecDepth 100000
set_option maxHeartbeats 1000000
namespace L2
section
open PySem PySem.W Builtin Builtin.ObjectAttr Builtin.Getset_descriptor
variable {prog : Program} {w : World} {A : Around} {E : Value → Shared → Prop} {h : Heap} {g : Array GenState} {d : Drawn} {t : Nat} {os : OsState} {a C : Addr} {o : Obj} {K : Frag}
structure XIs (K : Frag) (C : Addr) : Prop where
  cls : (clsIn K C).isSome = true
  ga : findIn K (.ref C) "__getattribute__" = some (some (.builtin "BaseException.__getattribute__"))
  hook : findIn K (.ref C) "__getattr__" = some none
  cl : findIn K (.ref C) "__class__" = some (some (.builtin "object.__class__"))
  mo : mroIn K C (.type "object") = some true
  mb : mroIn K C (.type "BaseException") = some true
theorem look_name {M : Model} {n : Str} {r : Option Value} {Q : Option Value → Shared → Prop} (X : K.In h) (e : findIn K (.ref C) n = some r) (z : Q r ⟨h, g, d, t, os⟩) : wpAny M A (typeLookup (.ref C) n) Q E ⟨h, g, d, t, os⟩ :=
  (looks_findIn (M := M) X e).at z
theorem look_mro {M : Model} {b : Value} {r : Bool} {Q : Bool → Shared → Prop} (X : K.In h) (e : mroIn K C b = some r) (z : Q r ⟨h, g, d, t, os⟩) : wpAny M A (isSubtype (.ref C) b) Q E ⟨h, g, d, t, os⟩ :=
  (looks_mroIn (M := M) X e).at z
theorem exc_class_get {R : Result → Shared → Prop} {tp : Value} (Z : XIs K C) (X : K.In h) (hx : h.get? a = some o) (hc : o.cls = .ref C) (z : R (.ok (.ret (.ref C))) ⟨h, g, d, t, os⟩) :
    codeAny (model prog w) A (.call (.builtin "getset_descriptor.__get__") ⟨[.builtin "object.__class__", .ref a, tp], []⟩) R ⟨h, g, d, t, os⟩ := by
  have L0 : Looks (model prog w) h (typeOf (.ref a)) (.ref C) := by
    have := ((Looks.ld (M := model prog w) (part := some headPart) hx).andThen (f := fun o => pure o.cls) .now)
    rw [hc] at this
    exact this
  have L1 := looks_mroIn (M := model prog w) X Z.mo
  refine codeAny_call_builtin KF.slot_gs.plain KF.entry_gs (KF.slot_gs.check _ _ _ _ _ _ _ _ KF.type_class (KF.args_gs _ _ _) ?_)
  unfold Builtin.«getset_descriptor.__get__» descrGet
  rw [dga_obj]
  refine wpAny_bind (wpAny_pure ?_)
  unfold descrGetter descrCheckInstance descrNameAndClass isInstance
  simp only [KF.owner_class]
  repeat lk
  refine ⟨Code.quiet_builtin _ (by decide +kernel), codeAny_builtin KF.entry_class ?_⟩
  unfold Builtin.«object.__class__» shownTypeOf
  repeat lk
  exact z
theorem may_ga {M : Model} {nv : Value} {Q : Unit → Shared → Prop} (Z : XIs K C) (X : K.In h) (hx : h.get? a = some o) (hc : o.cls = .ref C) (z : Q () ⟨h, g, d, t, os⟩) :
    wpAny M A (checkBuiltinCall "BaseException.__getattribute__" ⟨[.ref a, nv], []⟩) Q E ⟨h, g, d, t, os⟩ := by
  have hk : builtinKind "BaseException.__getattribute__" = some .slot := by decide +kernel
  have hs : splitId "BaseException.__getattribute__" = some ("BaseException", "__getattribute__") := by decide +kernel
  have ha := PySem.F.args_bexc_ga (.ref a) nv
  simp only [checkBuiltinCall, hk, hs]
  refine wpAny_bind ?_
  unfold isInstance
  repeat
    first
    | (with_reducible refine wpAny_loadPart_at hx ?_; rw [hc])
    | with_reducible refine look_mro X Z.mb ?_
    | wp_step
  exact z
theorem exc_class {Q : Option Value → Shared → Prop} (Z : XIs K C) (X : K.In h) (hx : h.get? a = some o) (hc : o.cls = .ref C) (z : Q (some (.ref C)) ⟨h, g, d, t + 1, os⟩) :
    wpAny (model prog w) A (getAttr? (.ref a) "__class__") Q E ⟨h, g, d, t, os⟩ := by
  have f3 := PySem.F.excAttr_ValueError.ga.bind (.ref a)
  have b2 : (Value.builtin "BaseException.__getattribute__" == Value.builtin "object.__getattribute__") = false := by decide +kernel
  have b1 : (onTheHeap (Value.ref C) && Value.builtin "BaseException.__getattribute__" == Value.builtin "object.__getattribute__") = false := by rw [b2]; rfl
  have f5 := PySem.F.typeOf_object_class
  have f6 := PySem.F.slot_gs_get.lookup
  have f7 := PySem.F.slot_gs_set.lookup
  have hT5 : (⟨h, g, d, t + 1, os⟩ : Shared).TypeIs (.builtin "object.__class__") "getset_descriptor" := PySem.F.typeOf_object_class
  unfold getAttr? getAttrBy?
  refine wpAny_bind (wpAny_mkText (wpAny_bind (wpAny_attempt ?_)))
  unfold getAttrBy
  repeat
    any_goals
      first
      | assumption
      | (with_reducible refine wpAny_loadPart_at hx ?_; rw [hc])
      | with_reducible refine look_name X Z.ga ?_
      | with_reducible refine look_name X Z.hook ?_
      | wp_step
  refine codeAny_call_builtin PySem.F.excAttr_ValueError.ga.plain PySem.F.entry_bexc_ga (may_ga Z X hx hc ?_)
  repeat
    any_goals
      first
      | assumption
      | (with_reducible refine wpAny_loadPart_at hx ?_; rw [hc])
      | with_reducible refine look_name X Z.cl ?_
      | wp_step
  refine exc_class_get Z X hx hc ?_
  repeat
    any_goals
      first
      | assumption
      | wp_step
end
end L2
set_option Elab.async false
set_option linter.all false
set_option maxRecDepth 100000
set_option maxHeartbeats 1000000
namespace L2
open PySem PySem.Spec PyProof.Rows
def Cau (C a : Addr) : HO := .ext fun h => ∃ o, h.get? a = some o ∧ o.cls = .ref C
theorem kitx_exc {K : PySem.W.Frag} {C a : Addr} (Z : XIs K C) : PySem.W.KitX K (.ref a) (.ref C) (fun h => ∃ o, h.get? a = some o ∧ o.cls = .ref C) where
  ty := fun M h _ ⟨o, e, c⟩ => by
    have := ((PySem.W.Looks.ld (M := M) (part := some headPart) e).andThen (f := fun o => pure o.cls) .now)
    rw [c] at this
    exact this
  it := fun M h X _ => by
    have hc := Z.cls
    unfold PySem.W.clsIn at hc
    split at hc
    · rename_i ho
      intro A' Q' E' s' k q
      unfold isType loadHead
      exact wpAny_bind (wpAny_loadPart (k _ _ (X _ _ ho)) (wpAny_pure q))
    · cases hc
  ne := fun h tp dd its n sl X htp => by
    have hc := Z.cls
    refine Bool.eq_false_iff.mpr fun q => ?_
    have e : C = tp := Value.ref.inj (beq_iff_eq.mp q)
    subst e
    unfold PySem.W.clsIn at hc
    split at hc
    · rename_i ho
      cases (X _ _ ho).symm.trans htp
    · cases hc
  ca := fun {prog w A E Q s} X ⟨o, e, c⟩ k => by
    obtain ⟨h, g, d, t, os⟩ := s
    exact exc_class Z X e c k
def clsV : V → Value
  | .ty n => .type n
  | .ref a => .ref a
  | _ => .none
def isCls : V → Bool
  | .ty _ => true
  | .ref _ => true
  | _ => false
theorem clsV_of {x : V} {u : Value} (r : RelV x u) (h : isCls x = true) : u = clsV x := by
  cases x with
  | ty n => exact r
  | ref a => exact r
  | _ => cases h
theorem clsV_all : ∀ {xs : List V} {us : List Value}, Vals xs us → xs.all isCls = true → us = xs.map clsV
  | _, _, .nil, _ => rfl
  | _, _, .cons r t, h => by
    rw [List.all_cons, Bool.and_eq_true] at h
    rw [clsV_of r h.1, clsV_all t h.2, List.map_cons]
inductive TyX (K : PySem.W.Frag) (H : Hp) : V → Value → Prop where
  | of {x : V} {t : Value} (h : TyOf K H x t) : TyX K H x t
  | exc {a C : Addr} (e : H a = some (Cau C a)) (Z : XIs K C) : TyX K H (.ref a) (.ref C)
section
variable {X : Cx}
theorem TyX.kit {pins : List (Addr × Obj)} {σ : St} {H : Hp} {s : Shared} {x : V} {u t : Value} (I : Inv X pins σ H s) (rx : RelV x u) (ty : TyX X.K H x t) : ∃ Hh, PySem.W.KitX X.K u t Hh ∧ Hh s.heap ∧ u ≠ .builtin "__main__.__loader__#opaque" := by
  cases ty with
  | of ty =>
    cases ty with
    | non => cases (show u = Value.none from rx); exact ⟨_, PySem.W.kitx_none, True.intro, fun z => nomatch z⟩
    | bl y => cases (show u = Value.bool y from rx); exact ⟨_, PySem.W.kitx_bool, True.intro, fun z => nomatch z⟩
    | int i => obtain ⟨t, q⟩ := (show ∃ t, u = Value.int i t from rx); cases q; exact ⟨_, PySem.W.kitx_int, True.intro, fun z => nomatch z⟩
    | str y => obtain ⟨t, q⟩ := (show ∃ t, u = Value.str y t from rx); cases q; exact ⟨_, PySem.W.kitx_str, True.intro, fun z => nomatch z⟩
    | flt y => obtain ⟨t, q⟩ := (show ∃ t, u = Value.float y t from rx); cases q; exact ⟨_, PySem.W.kitx_float, True.intro, fun z => nomatch z⟩
    | @lst a xs ea =>
      cases (show u = Value.ref a from rx)
      obtain ⟨_, _, n, _, h1⟩ := (show ObjOk X.prog X.w H s.heap a (.lst xs) from I.hok a _ ea)
      exact ⟨_, PySem.W.kitx_list, ⟨_, h1, rfl⟩, fun z => nomatch z⟩
    | @frz a ob xs ea =>
      cases (show u = Value.ref a from rx)
      obtain ⟨_, _, _, n, _, h1⟩ := (show ObjOk X.prog X.w H s.heap a (.frz ob (.lst xs)) from I.hok a _ ea)
      exact ⟨_, PySem.W.kitx_list, ⟨_, h1, rfl⟩, fun z => nomatch z⟩
    | @tup a xs ea =>
      cases (show u = Value.ref a from rx)
      obtain ⟨_, _, _, o, h1, h2, _⟩ := (show ObjOk X.prog X.w H s.heap a (.tup xs) from I.hok a _ ea)
      exact ⟨_, PySem.W.kitx_tuple, ⟨o, h1, h2⟩, fun z => nomatch z⟩
    | @dK a kvs ea =>
      cases (show u = Value.ref a from rx)
      obtain ⟨_, _, vs, _, o, es, ep, h1, h2, _⟩ := (show ObjOk X.prog X.w H s.heap a (.dK kvs) from I.hok a _ ea)
      exact ⟨_, PySem.W.kitx_dict, ⟨o, h1, h2.1⟩, fun z => nomatch z⟩
    | @dT a kvs ea =>
      cases (show u = Value.ref a from rx)
      obtain ⟨_, _, xs, _, o, es, ep, h1, h2, _⟩ := (show ObjOk X.prog X.w H s.heap a (.dT kvs) from I.hok a _ ea)
      exact ⟨_, PySem.W.kitx_dict, ⟨o, h1, h2.1⟩, fun z => nomatch z⟩
    | @ins a C dx fs ea cl ha hn htk hm =>
      cases (show u = Value.ref a from rx)
      obtain ⟨mA, O, _⟩ := ins_get I.hok ea
      obtain ⟨od, J, _⟩ := O.look
      exact ⟨_, PySem.W.kitx_own (cl.get _) cl.hd ha hn htk hm, J, fun z => nomatch z⟩
  | @exc a C e Z =>
    cases (show u = Value.ref a from rx)
    obtain ⟨h1, _⟩ := (show ObjOk X.prog X.w H s.heap a (Cau C a) from I.hok a _ e)
    exact ⟨_, kitx_exc Z, h1, fun z => nomatch z⟩
def rIsi (K : PySem.W.Frag) : List V → Hp → VK → Prop := fun xs H Q => ∃ x c t b, xs = [x, c] ∧ TyX K H x t ∧
  ((isCls c = true ∧ PySem.W.kitOne K t (clsV c) = some b) ∨ (∃ p ys, c = .ref p ∧ H p = some (.tup ys) ∧ ys.all isCls = true ∧ PySem.W.kitAny K t (ys.map clsV) = some b)) ∧ Q (.bl b) H
theorem call_isi : CallR X (.builtin "isinstance") (rIsi X.K) := by
  intro pins s σ H xs us Q I r h
  obtain ⟨x, c, t, b, e, ty, h, q⟩ := h
  subst e
  cases r with
  | @cons _ u _ _ rx r =>
    cases r with
    | @cons _ v _ _ rc r =>
      cases r
      obtain ⟨Hh, Z, hp, hne⟩ := ty.kit I rx
      rcases h with ⟨hc, hk⟩ | ⟨p, ys, e, hH, hall, hk⟩
      · cases clsV_of rc hc
        exact PySem.W.kia_one Z I.kIn hp hk hne fun tk => ⟨.bl b, H, I.tok tk, rfl, q⟩
      · subst e
        cases (show v = Value.ref p from rc)
        obtain ⟨_, its, rv, ⟨oc, od, oda, osl⟩, h1, h2, n, h3⟩ := (show ObjOk X.prog X.w H s.heap p (.tup ys) from I.hok p _ hH)
        dsimp only at h2 h3
        subst h2 h3
        cases clsV_all rv hall
        exact PySem.W.kia_tup Z I.kIn hp h1 hk hne fun tk => ⟨.bl b, H, I.tok tk, rfl, q⟩
end
end L2
set_option Elab.async false
set_option linter.all false
set_option maxRecDepth 100000
set_option maxHeartbeats 1000000
namespace L2
open PySem PySem.Spec PyProof.Rows
abbrev TSX := Ends → XK → St → Hp → Prop
section
variable {X : Cx} {CX : CXT} {k : Nat} {f : Addr} {fd : FuncData} {ps : List Str} {sp : Sp} {x : Str} {p pos epos : Pos} {e : Expr} {es : List Expr} {t : TA}
end
section
variable {X : Cx} {pins : List (Addr × Obj)} {σ : St} {H : Hp} {s : Shared} {a : Addr}
end
section
variable {X : Cx} {body suite : List Stmt} {b0 : Stmt} {tb : TSX} {ts : TS} {i : Nat} {n cx : Str} {np hpos pos : Pos} {W : Addr}
end
end L2
set_option Elab.async false
set_option linter.all false
set_option maxRecDepth 100000
set_option maxHeartbeats 1000000
namespace L2
open PySem PySem.Spec PyProof.Rows
section
variable {X : Cx}
def Big (i : Int) : Prop := i.natAbs < 2 ^ 8000
theorem op_mulB : OpR X (binaryOp .Mult) (rI (fun i j => Big i ∧ Big j) fun i j => .int (i * j)) := opI fun _ _ _ _ _ _ _ hc q =>
  PyProof.Rows.mul_int q (IntMulOk.of_le (m := 8000) (n := 8000) (intBits_le_iff.mpr hc.1) (intBits_le_iff.mpr hc.2) (by decide))
theorem big_py {i j : Int} (h : Big j) : Builtin.divisionGoesByPylong i j = false := by
  refine PyProof.noPylong_of_log2 ?_
  by_cases z : j.natAbs = 0
  · rw [z]; decide
  · exact Nat.lt_trans ((Nat.log2_lt z).mpr h) (by decide)
theorem op_fdivB : OpR X (binaryOp .FloorDiv) (rI (fun _ j => 0 < j ∧ Big j) fun i j => .int (i / j)) := opI fun i j _ _ _ _ _ hc q => by
  have h1 : (0 : Int) < j := hc.1
  exact floordiv_int (by omega) (by rw [Int.fdiv_eq_ediv_of_nonneg i (by omega)]; exact q) (.inl (big_py hc.2))
end
theorem kit_tuple_tuple (K : PySem.W.Frag) : PySem.W.kitOne K (.type "tuple") (.type "tuple") = some true := by kernel_rfl
theorem kit_int_bool (K : PySem.W.Frag) : PySem.W.kitOne K (.type "int") (.type "bool") = some false := by kernel_rfl
theorem boot_isinstance : bootBuiltins "isinstance" = some (.builtin "isinstance") := by decide +kernel
theorem boot_abs : bootBuiltins "abs" = some (.builtin "abs") := by decide +kernel
end L2
set_option Elab.async false
set_option linter.all false
set_option maxRecDepth 100000
set_option maxHeartbeats 1000000
namespace L2
open PySem PySem.Spec PyProof.Rows
section
variable {X : Cx}
end
section
variable {X : Cx} {CX : CXT} {k : Nat} {f : Addr} {fd : FuncData} {ps : List Str} {sp : Sp} {x : Str} {p pos rpos : Pos} {e : Expr} {es : List Expr} {t : TA}
end
section
variable {X : Cx} {body suite : List Stmt} {b0 : Stmt} {tb : TSX} {ts : TS} {cx : Str} {np hpos pos : Pos} {W : Addr}
end
end L2
set_option Elab.async false
set_option linter.all false
set_option maxRecDepth 100000
set_option maxHeartbeats 1000000
namespace Tre
open PySem PySem.Spec PyProof.Rows L2
inductive Tr where
  | non
  | bl (b : Bool)
  | int (i : Int)
  | str (x : Str)
  | tup (ts : List Tr)
  | ls
mutual
def Tr.depth : Tr → Nat
  | .tup ts => Trs.depth ts + 1
  | _ => 0
def Trs.depth : List Tr → Nat
  | [] => 0
  | t :: ts => max (Tr.depth t) (Trs.depth ts)
end
mutual
def Tr.pure : Tr → Prop
  | .tup ts => Trs.pure ts
  | .ls => False
  | _ => True
def Trs.pure : List Tr → Prop
  | [] => True
  | t :: ts => Tr.pure t ∧ Trs.pure ts
end
mutual
def TrAt (H : Hp) : V → Tr → Prop
  | v, .non => v = .non
  | v, .bl b => v = .bl b
  | v, .int i => v = .int i
  | v, .str x => v = .str x
  | v, .tup ts => ∃ r vs, v = .ref r ∧ H r = some (.tup vs) ∧ TrsAt H vs ts
  | v, .ls => ∃ r xs, v = .ref r ∧ H r = some (.lst xs)
def TrsAt (H : Hp) : List V → List Tr → Prop
  | vs, [] => vs = []
  | vs, t :: ts => ∃ v r, vs = v :: r ∧ TrAt H v t ∧ TrsAt H r ts
end
structure Kd (H H' : Hp) : Prop where
  tup : ∀ a xs, H a = some (.tup xs) → H' a = some (.tup xs)
  lst : ∀ a xs, H a = some (.lst xs) → ∃ ys, H' a = some (.lst ys)
theorem Kd.refl (H : Hp) : Kd H H := ⟨fun _ _ e => e, fun _ xs e => ⟨xs, e⟩⟩
theorem Kd.trans {H H1 H2 : Hp} (a : Kd H H1) (b : Kd H1 H2) : Kd H H2 := ⟨fun x o e => b.tup x o (a.tup x o e), fun x o e => by
  obtain ⟨ys, e1⟩ := a.lst x o e
  exact b.lst x ys e1⟩
theorem Kd.of_same {H H' : Hp} (s : Same H H') : Kd H H' := ⟨fun a xs e => s a _ e, fun a xs e => ⟨xs, s a _ e⟩⟩
theorem Kd.upd {H : Hp} {p : Addr} {xs ys : List V} (h : H p = some (.lst xs)) : Kd H (upd H p (.lst ys)) := by
  refine ⟨fun a zs e => ?_, fun a zs e => ?_⟩
  · rw [upd_ne]
    · exact e
    · intro z
      rw [z, h] at e
      cases e
  · by_cases z : a = p
    · subst z
      exact ⟨ys, upd_same⟩
    · exact ⟨zs, (upd_ne z).trans e⟩
mutual
theorem TrAt.mono {H H' : Hp} (k : Kd H H') : ∀ {v : V} {t : Tr}, TrAt H v t → TrAt H' v t
  | v, .non, h => by unfold TrAt at h ⊢; exact h
  | v, .bl b, h => by unfold TrAt at h ⊢; exact h
  | v, .int i, h => by unfold TrAt at h ⊢; exact h
  | v, .str x, h => by unfold TrAt at h ⊢; exact h
  | v, .ls, h => by
    unfold TrAt at h ⊢
    obtain ⟨r, xs, e, h⟩ := h
    obtain ⟨ys, h'⟩ := k.lst r xs h
    exact ⟨r, ys, e, h'⟩
  | v, .tup ts, h => by
    unfold TrAt at h ⊢
    obtain ⟨r, vs, e, h1, h2⟩ := h
    exact ⟨r, vs, e, k.tup _ _ h1, TrsAt.mono k h2⟩
theorem TrsAt.mono {H H' : Hp} (k : Kd H H') : ∀ {vs : List V} {ts : List Tr}, TrsAt H vs ts → TrsAt H' vs ts
  | vs, [], h => by unfold TrsAt at h ⊢; exact h
  | vs, t :: ts, h => by
    unfold TrsAt at h ⊢
    obtain ⟨v, r, e, h1, h2⟩ := h
    exact ⟨v, r, e, TrAt.mono k h1, TrsAt.mono k h2⟩
end
theorem TrsAt.nil {H : Hp} : TrsAt H [] [] := by unfold TrsAt; rfl
theorem TrsAt.cons {H : Hp} {v : V} {t : Tr} {vs : List V} {ts : List Tr} (h : TrAt H v t) (r : TrsAt H vs ts) : TrsAt H (v :: vs) (t :: ts) := by
  unfold TrsAt
  exact ⟨v, vs, rfl, h, r⟩
theorem TrsAt.inv {H : Hp} {t : Tr} {vs : List V} {ts : List Tr} (h : TrsAt H vs (t :: ts)) : ∃ v r, vs = v :: r ∧ TrAt H v t ∧ TrsAt H r ts := by
  unfold TrsAt at h
  exact h
theorem TrsAt.len {H : Hp} : ∀ {vs : List V} {ts : List Tr}, TrsAt H vs ts → vs.length = ts.length
  | vs, [], h => by
    unfold TrsAt at h
    rw [h]
    rfl
  | vs, t :: ts, h => by
    obtain ⟨v, r, e, _, h2⟩ := h.inv
    rw [e, List.length_cons, List.length_cons, h2.len]
theorem TrsAt.app {H : Hp} {ws : List V} {us : List Tr} (b : TrsAt H ws us) : ∀ {vs : List V} {ts : List Tr}, TrsAt H vs ts → TrsAt H (vs ++ ws) (ts ++ us)
  | vs, [], h => by
    unfold TrsAt at h
    subst h
    exact b
  | vs, t :: ts, h => by
    obtain ⟨v, r, e, h1, h2⟩ := h.inv
    subst e
    exact .cons h1 (TrsAt.app b h2)
theorem TrsAt.get {H : Hp} : ∀ {vs : List V} {ts : List Tr} {i : Nat} {t : Tr}, TrsAt H vs ts → ts[i]? = some t → ∃ v, vs[i]? = some v ∧ TrAt H v t
  | vs, [], i, t, _, e => by simp at e
  | vs, a :: ts, 0, t, h, e => by
    obtain ⟨v, r, rfl, h1, h2⟩ := h.inv
    simp at e
    subst e
    exact ⟨v, rfl, h1⟩
  | vs, a :: ts, i + 1, t, h, e => by
    obtain ⟨v, r, rfl, h1, h2⟩ := h.inv
    obtain ⟨u, e1, e2⟩ := h2.get (i := i) (by simpa using e)
    exact ⟨u, by simpa using e1, e2⟩
theorem TrsAt.get' {H : Hp} {vs : List V} {ts : List Tr} {i : Nat} {v : V} (h : TrsAt H vs ts) (e : vs[i]? = some v) : ∃ t, ts[i]? = some t ∧ TrAt H v t := by
  have hl := h.len
  have hi : i < vs.length := (List.getElem?_eq_some_iff.mp e).1
  obtain ⟨u, e1, e2⟩ := h.get (i := i) (t := ts[i]'(by omega)) (List.getElem?_eq_getElem _)
  rw [e] at e1
  cases e1
  exact ⟨_, List.getElem?_eq_getElem _, e2⟩
mutual
theorem TrAt.det {H : Hp} : ∀ {v : V} {t u : Tr}, TrAt H v t → TrAt H v u → t = u
  | v, .non, u, h1, h2 => by
    unfold TrAt at h1
    subst h1
    cases u <;> unfold TrAt at h2 <;> first | rfl | (cases h2; done) | (obtain ⟨_, _, e, _⟩ := h2; cases e)
  | v, .bl b, u, h1, h2 => by
    unfold TrAt at h1
    subst h1
    cases u <;> unfold TrAt at h2 <;> first | (cases h2; rfl) | (cases h2; done) | (obtain ⟨_, _, e, _⟩ := h2; cases e)
  | v, .int b, u, h1, h2 => by
    unfold TrAt at h1
    subst h1
    cases u <;> unfold TrAt at h2 <;> first | (cases h2; rfl) | (cases h2; done) | (obtain ⟨_, _, e, _⟩ := h2; cases e)
  | v, .str b, u, h1, h2 => by
    unfold TrAt at h1
    subst h1
    cases u <;> unfold TrAt at h2 <;> first | (cases h2; rfl) | (cases h2; done) | (obtain ⟨_, _, e, _⟩ := h2; cases e)
  | v, .ls, u, h1, h2 => by
    unfold TrAt at h1
    obtain ⟨r, xs, rfl, h1⟩ := h1
    cases u <;> unfold TrAt at h2 <;> first | rfl | (cases h2; done) | (obtain ⟨_, _, e, h2, _⟩ := h2; cases e; rw [h1] at h2; cases h2)
  | v, .tup ts, .tup us, h1, h2 => by
    unfold TrAt at h1 h2
    obtain ⟨r, vs, rfl, h1, h3⟩ := h1
    obtain ⟨r', vs', e, h2, h4⟩ := h2
    cases e
    rw [h1] at h2
    cases h2
    rw [TrsAt.det h3 h4]
  | v, .tup ts, .non, h1, h2 => by unfold TrAt at h1 h2; obtain ⟨_, _, e, _⟩ := h1; rw [h2] at e; cases e
  | v, .tup ts, .bl _, h1, h2 => by unfold TrAt at h1 h2; obtain ⟨_, _, e, _⟩ := h1; rw [h2] at e; cases e
  | v, .tup ts, .int _, h1, h2 => by unfold TrAt at h1 h2; obtain ⟨_, _, e, _⟩ := h1; rw [h2] at e; cases e
  | v, .tup ts, .str _, h1, h2 => by unfold TrAt at h1 h2; obtain ⟨_, _, e, _⟩ := h1; rw [h2] at e; cases e
  | v, .tup ts, .ls, h1, h2 => by
    unfold TrAt at h1 h2
    obtain ⟨r, vs, rfl, h1, _⟩ := h1
    obtain ⟨r', xs, e, h2⟩ := h2
    cases e
    rw [h1] at h2
    cases h2
theorem TrsAt.det {H : Hp} : ∀ {vs : List V} {ts us : List Tr}, TrsAt H vs ts → TrsAt H vs us → ts = us
  | vs, [], [], _, _ => rfl
  | vs, [], u :: us, h1, h2 => by
    have a := h1.len
    have b := h2.len
    rw [a] at b
    simp at b
  | vs, t :: ts, [], h1, h2 => by
    have a := h1.len
    have b := h2.len
    rw [a] at b
    simp at b
  | vs, t :: ts, u :: us, h1, h2 => by
    obtain ⟨v, r, rfl, h3, h4⟩ := h1.inv
    obtain ⟨v', r', e, h5, h6⟩ := h2.inv
    cases e
    rw [TrAt.det h3 h5, TrsAt.det h4 h6]
end
mutual
def eqT : Tr → Tr → Bool
  | .non, .non => true
  | .bl a, .bl b => a == b
  | .bl a, .int i => (if a then 1 else 0) == i
  | .int i, .bl b => i == (if b then 1 else 0)
  | .int i, .int j => i == j
  | .str x, .str y => x == y
  | .tup ts, .tup us => eqTs ts us
  | .ls, .ls => true
  | _, _ => false
def eqTs : List Tr → List Tr → Bool
  | [], [] => true
  | t :: ts, u :: us => eqT t u && eqTs ts us
  | _, _ => false
end
mutual
theorem eqT_refl : ∀ t : Tr, eqT t t = true
  | .non => by simp [eqT]
  | .bl _ => by simp [eqT]
  | .int _ => by simp [eqT]
  | .str _ => by simp [eqT]
  | .ls => by simp [eqT]
  | .tup ts => by simp only [eqT]; exact eqTs_refl ts
theorem eqTs_refl : ∀ ts : List Tr, eqTs ts ts = true
  | [] => by simp [eqTs]
  | t :: ts => by simp [eqTs, eqT_refl t, eqTs_refl ts]
end
def eqJ (ts us : List Tr) (j : Nat) : Bool := match ts[j]?, us[j]? with
  | some t, some u => eqT t u
  | _, _ => true
theorem eqJ_at {ts us : List Tr} {j : Nat} {t u : Tr} (h1 : ts[j]? = some t) (h2 : us[j]? = some u) : eqJ ts us j = eqT t u := by
  unfold eqJ
  rw [h1, h2]
theorem eqTs_all : ∀ (ts us : List Tr), eqTs ts us = ((List.range (min ts.length us.length)).all (eqJ ts us) && ts.length == us.length)
  | [], [] => by simp [eqTs]
  | [], u :: us => by simp [eqTs]
  | t :: ts, [] => by simp [eqTs]
  | t :: ts, u :: us => by
    simp only [eqTs, List.length_cons]
    rw [eqTs_all ts us, show min (ts.length + 1) (us.length + 1) = min ts.length us.length + 1 by omega, List.range_succ_eq_map, List.all_cons, List.all_map]
    have e : (eqJ (t :: ts) (u :: us)) ∘ Nat.succ = eqJ ts us := by
      funext j
      simp [eqJ]
    rw [e]
    simp [eqJ, Bool.and_assoc]
end Tre
set_option Elab.async false
set_option linter.all false
set_option maxRecDepth 100000
set_option maxHeartbeats 1000000
namespace Tre
open PySem PySem.Spec PyProof.Rows L2
section
variable {X : Cx} {pins : List (Addr × Obj)} {σ : L2.St} {H : Hp} {s : Shared} {A : Around}
theorem tups_eqAt {a b : Addr} {xs ys : List V} (I : Inv X pins σ H s) (ha : H a = some (.tup xs)) (hb : H b = some (.tup ys)) (hu : A.units < cLine) (e : Nat → Bool) (hne : a ≠ b)
    (he : ∀ j x y u v, xs[j]? = some x → ys[j]? = some y → RelV x u → RelV y v → SeqAt.EqAt A.in1 s u v (e j)) :
    SeqAt.EqAt A s (.ref a) (.ref b) ((List.range (min xs.length ys.length)).all e && xs.length == ys.length) := by
  obtain ⟨us, r1, p1, _⟩ := I.tuple (SqT.of ha)
  obtain ⟨ws, r2, p2, _⟩ := I.tuple (SqT.of hb)
  have l1 := r1.length
  have l2 := r2.length
  have := SeqAt.RcAt.tuples (A := A) (e := e) (show s.heap.IsTuple a us.toArray from p1) (show s.heap.IsTuple b ws.toArray from p2) hu fun j h1 h2 => by
    have h1' : j < us.length := by simpa using h1
    have h2' : j < ws.length := by simpa using h2
    obtain ⟨u, e1, q1⟩ := r1.get (i := j) (x := xs[j]'(by omega)) (List.getElem?_eq_getElem _)
    obtain ⟨v, e2, q2⟩ := r2.get (i := j) (x := ys[j]'(by omega)) (List.getElem?_eq_getElem _)
    have z1 : us.toArray[j] = u := by rw [List.getElem_toArray]; rw [List.getElem?_eq_getElem h1'] at e1; exact Option.some.inj e1
    have z2 : ws.toArray[j] = v := by rw [List.getElem_toArray]; rw [List.getElem?_eq_getElem h2'] at e2; exact Option.some.inj e2
    rw [z1, z2]
    exact he j _ _ u v (List.getElem?_eq_getElem _) (List.getElem?_eq_getElem _) q1 q2
  rw [List.size_toArray, List.size_toArray, ← l1, ← l2] at this
  exact SeqAt.EqAt.of_refs hne this
theorem depth_memT : ∀ {ts : List Tr} {t : Tr}, t ∈ ts → t.depth ≤ Trs.depth ts
  | a :: ts, t, h => by
    unfold Trs.depth
    rcases List.mem_cons.mp h with rfl | h
    · omega
    · have := depth_memT h
      omega
theorem pure_mem : ∀ {ts : List Tr} {t : Tr}, Trs.pure ts → t ∈ ts → t.pure
  | a :: ts, t, p, h => by
    unfold Trs.pure at p
    rcases List.mem_cons.mp h with rfl | h
    · exact p.1
    · exact pure_mem p.2 h
theorem tr_tupAt {r : Addr} {vs : List V} (I : Inv X pins σ H s) (h : H r = some (.tup vs)) : ∃ its : Array Value, s.heap.IsTuple r its := by
  obtain ⟨us, _, p, _⟩ := I.tuple (SqT.of h)
  exact ⟨_, p⟩
theorem tr_lstAt {r : Addr} {vs : List V} (I : Inv X pins σ H s) (h : H r = some (.lst vs)) : ∃ its : Array Value, s.heap.IsList r its := by
  obtain ⟨us, _, p, _⟩ := I.list (SqL.of h)
  exact ⟨_, p.isList⟩
theorem sc_eqAt (I : Inv X pins σ H s) {A : Around} {t u : Tr} {v w : V} {a b : Value} (hd : ∀ ts, t ≠ .tup ts) (hp : t.pure ∨ u.pure) (h1 : TrAt H v t) (h2 : TrAt H w u) (r1 : RelV v a) (r2 : RelV w b) (hu0 : A.units < cLine) : SeqAt.EqAt A s a b (eqT t u) := by
  cases t with
  | tup ts => exact (hd ts rfl).elim
  | non =>
    unfold TrAt at h1
    subst h1
    cases (show a = Value.none from r1)
    cases u with
    | non => unfold TrAt at h2; subst h2; cases (show b = Value.none from r2); simp only [eqT]; exact SeqAt.EqAt.same _
    | bl c => unfold TrAt at h2; subst h2; cases (show b = Value.bool c from r2); simp only [eqT]; exact SeqAt.EqAt.none_bool c
    | int c => unfold TrAt at h2; subst h2; obtain ⟨t', rfl⟩ := r2; simp only [eqT]; exact SeqAt.EqAt.none_int c t'
    | str c => unfold TrAt at h2; subst h2; obtain ⟨t', rfl⟩ := r2; simp only [eqT]; exact SeqAt.EqAt.none_str c t'
    | tup us => unfold TrAt at h2; obtain ⟨r, vs, rfl, g1, _⟩ := h2; cases r2; obtain ⟨its, p⟩ := tr_tupAt I g1; simp only [eqT]; exact SeqAt.EqAt.none_tuple p hu0
    | ls => unfold TrAt at h2; obtain ⟨r, vs, rfl, g1⟩ := h2; cases r2; obtain ⟨its, p⟩ := tr_lstAt I g1; simp only [eqT]; exact SeqAt.EqAt.none_list p hu0
  | bl d =>
    unfold TrAt at h1
    subst h1
    cases (show a = Value.bool d from r1)
    cases u with
    | non => unfold TrAt at h2; subst h2; cases (show b = Value.none from r2); simp only [eqT]; exact SeqAt.EqAt.bool_none d
    | bl c => unfold TrAt at h2; subst h2; cases (show b = Value.bool c from r2); simp only [eqT]; exact SeqAt.EqAt.bool_bool d c
    | int c => unfold TrAt at h2; subst h2; obtain ⟨t', rfl⟩ := r2; simp only [eqT]; exact SeqAt.EqAt.bool_int d c t'
    | str c => unfold TrAt at h2; subst h2; obtain ⟨t', rfl⟩ := r2; simp only [eqT]; exact SeqAt.EqAt.bool_str d c t'
    | tup us => unfold TrAt at h2; obtain ⟨r, vs, rfl, g1, _⟩ := h2; cases r2; obtain ⟨its, p⟩ := tr_tupAt I g1; simp only [eqT]; exact SeqAt.EqAt.bool_tuple d p hu0
    | ls => unfold TrAt at h2; obtain ⟨r, vs, rfl, g1⟩ := h2; cases r2; obtain ⟨its, p⟩ := tr_lstAt I g1; simp only [eqT]; exact SeqAt.EqAt.bool_list d p hu0
  | int d =>
    unfold TrAt at h1
    subst h1
    obtain ⟨t0, rfl⟩ := r1
    cases u with
    | non => unfold TrAt at h2; subst h2; cases (show b = Value.none from r2); simp only [eqT]; exact SeqAt.EqAt.int_none d t0
    | bl c => unfold TrAt at h2; subst h2; cases (show b = Value.bool c from r2); simp only [eqT]; exact SeqAt.EqAt.int_bool d t0 c
    | int c => unfold TrAt at h2; subst h2; obtain ⟨t', rfl⟩ := r2; simp only [eqT]; exact SeqAt.EqAt.int_int d t0 c t'
    | str c => unfold TrAt at h2; subst h2; obtain ⟨t', rfl⟩ := r2; simp only [eqT]; exact SeqAt.EqAt.int_str d t0 c t'
    | tup us => unfold TrAt at h2; obtain ⟨r, vs, rfl, g1, _⟩ := h2; cases r2; obtain ⟨its, p⟩ := tr_tupAt I g1; simp only [eqT]; exact SeqAt.EqAt.int_tuple d t0 p hu0
    | ls => unfold TrAt at h2; obtain ⟨r, vs, rfl, g1⟩ := h2; cases r2; obtain ⟨its, p⟩ := tr_lstAt I g1; simp only [eqT]; exact SeqAt.EqAt.int_list d t0 p hu0
  | str d =>
    unfold TrAt at h1
    subst h1
    obtain ⟨t0, rfl⟩ := r1
    cases u with
    | non => unfold TrAt at h2; subst h2; cases (show b = Value.none from r2); simp only [eqT]; exact SeqAt.EqAt.str_none d t0
    | bl c => unfold TrAt at h2; subst h2; cases (show b = Value.bool c from r2); simp only [eqT]; exact SeqAt.EqAt.str_bool d t0 c
    | int c => unfold TrAt at h2; subst h2; obtain ⟨t', rfl⟩ := r2; simp only [eqT]; exact SeqAt.EqAt.str_int d t0 c t'
    | str c => unfold TrAt at h2; subst h2; obtain ⟨t', rfl⟩ := r2; simp only [eqT]; exact SeqAt.EqAt.str_str d t0 c t'
    | tup us => unfold TrAt at h2; obtain ⟨r, vs, rfl, g1, _⟩ := h2; cases r2; obtain ⟨its, p⟩ := tr_tupAt I g1; simp only [eqT]; exact SeqAt.EqAt.str_tuple d t0 p hu0
    | ls => unfold TrAt at h2; obtain ⟨r, vs, rfl, g1⟩ := h2; cases r2; obtain ⟨its, p⟩ := tr_lstAt I g1; simp only [eqT]; exact SeqAt.EqAt.str_list d t0 p hu0
  | ls =>
    unfold TrAt at h1
    obtain ⟨r0, vs0, rfl, g0⟩ := h1
    cases r1
    obtain ⟨its0, p0⟩ := tr_lstAt I g0
    cases u with
    | non => unfold TrAt at h2; subst h2; cases (show b = Value.none from r2); simp only [eqT]; exact SeqAt.EqAt.list_none p0 hu0
    | bl c => unfold TrAt at h2; subst h2; cases (show b = Value.bool c from r2); simp only [eqT]; exact SeqAt.EqAt.list_bool c p0 hu0
    | int c => unfold TrAt at h2; subst h2; obtain ⟨t', rfl⟩ := r2; simp only [eqT]; exact SeqAt.EqAt.list_int c t' p0 hu0
    | str c => unfold TrAt at h2; subst h2; obtain ⟨t', rfl⟩ := r2; simp only [eqT]; exact SeqAt.EqAt.list_str c t' p0 hu0
    | tup us => unfold TrAt at h2; obtain ⟨r, vs, rfl, g1, _⟩ := h2; cases r2; obtain ⟨its, p⟩ := tr_tupAt I g1; simp only [eqT]; exact SeqAt.EqAt.list_tuple p0 p hu0
    | ls => rcases hp with hp | hp <;> simp [Tr.pure] at hp
theorem tr_eqAt (I : Inv X pins σ H s) : ∀ (n : Nat) {A : Around} {t u : Tr} {v w : V} {a b : Value}, t.depth ≤ n → (t.pure ∨ u.pure) → TrAt H v t → TrAt H w u → RelV v a → RelV w b → A.units + n + 1 < cLine → SeqAt.EqAt A s a b (eqT t u) := by
  intro n
  induction n with
  | zero =>
    intro A t u v w a b hd hp h1 h2 r1 r2 hu
    refine sc_eqAt I (fun ts e => ?_) hp h1 h2 r1 r2 (by omega)
    subst e
    simp [Tr.depth] at hd
  | succ n ih =>
    intro A t u v w a b hd hp h1 h2 r1 r2 hu
    have hu0 : A.units < cLine := by omega
    cases t with
    | tup ts =>
      have h1' := h1
      have h2' := h2
      unfold TrAt at h1
      obtain ⟨r0, vs0, rfl, g0, k0⟩ := h1
      cases r1
      obtain ⟨its0, p0⟩ := tr_tupAt I g0
      unfold Tr.depth at hd
      cases u with
      | non => unfold TrAt at h2; subst h2; cases (show b = Value.none from r2); simp only [eqT]; exact SeqAt.EqAt.tuple_none p0 hu0
      | bl c => unfold TrAt at h2; subst h2; cases (show b = Value.bool c from r2); simp only [eqT]; exact SeqAt.EqAt.tuple_bool c p0 hu0
      | int c => unfold TrAt at h2; subst h2; obtain ⟨t', rfl⟩ := r2; simp only [eqT]; exact SeqAt.EqAt.tuple_int c t' p0 hu0
      | str c => unfold TrAt at h2; subst h2; obtain ⟨t', rfl⟩ := r2; simp only [eqT]; exact SeqAt.EqAt.tuple_str c t' p0 hu0
      | ls => unfold TrAt at h2; obtain ⟨r, vs, rfl, g1⟩ := h2; cases r2; obtain ⟨its, p⟩ := tr_lstAt I g1; simp only [eqT]; exact SeqAt.EqAt.tuple_list p0 p hu0
      | tup us =>
        unfold TrAt at h2
        obtain ⟨r, vs, rfl, g1, k1⟩ := h2
        cases r2
        by_cases z : r0 = r
        · subst z
          rw [← TrAt.det h1' h2', eqT_refl]
          exact SeqAt.EqAt.same _
        · have := tups_eqAt I g0 g1 hu0 (eqJ ts us) z fun j x y u' v' m1 m2 q1 q2 => by
            obtain ⟨t1, n1, a1⟩ := k0.get' m1
            obtain ⟨t2, n2, a2⟩ := k1.get' m2
            rw [eqJ_at n1 n2]
            refine ih (A := A.in1) (by have := depth_memT (List.mem_of_getElem? n1); omega) ?_ a1 a2 q1 q2 (by show A.units + 1 + n + 1 < cLine; omega)
            rcases hp with hp | hp
            · unfold Tr.pure at hp
              exact .inl (pure_mem hp (List.mem_of_getElem? n1))
            · unfold Tr.pure at hp
              exact .inr (pure_mem hp (List.mem_of_getElem? n2))
          rw [k0.len, k1.len, ← eqTs_all] at this
          simp only [eqT]
          exact this
    | _ => exact sc_eqAt I (fun ts e => by cases e) hp h1 h2 r1 r2 hu0
end
end Tre
set_option Elab.async false
set_option linter.all false
set_option maxRecDepth 100000
set_option maxHeartbeats 1000000
namespace Tre
open PySem PySem.Spec PyProof.Rows L2
open PySem.AutoSeq1 (wpAny_loadPart')
def LtAt (A : Around) (s : Shared) (y x : Value) (b : Bool) : Prop :=
  ∀ (prog : Program) (w : World) (E : Value → Shared → Prop) (Q : Value → Shared → Prop), Q (.bool b) s → wpAny (model prog w) A (richCompare .Lt y x) Q E s
def LexAt (A : Around) (s : Shared) : List Value → List Value → List (Bool × Bool) → Prop
  | v :: vs, w :: ws, (e, l) :: q => SeqAt.EqAt A s v w e ∧ (e = false → LtAt A s v w l) ∧ (e = true → LexAt A s vs ws q)
  | [], _, q => q = []
  | _, [], q => q = []
  | _, _, _ => False
def lexV (fin : Bool) : List (Bool × Bool) → Bool
  | [] => fin
  | (e, l) :: q => if e = true then lexV fin q else l
theorem tuple_lt_any (l b : Addr) (items items2 : Array Value) (n n2 : Nat) (dd dd2 : Option Addr) (sl sl2 : Array (Option Value)) (q : List (Bool × Bool)) :
    Meets (Builtin.«tuple.__lt__» ⟨[.ref l, .ref b], []⟩)
      (fun A R s => s.heap.get? l = some { cls := .type "tuple", dict := dd, data := .seq items n, slots := sl } ∧ s.heap.get? b = some { cls := .type "tuple", dict := dd2, data := .seq items2 n2, slots := sl2 } ∧
        LexAt A.in1 s items.toList items2.toList q ∧ R (.ok (.ret (.bool (lexV (decide (items.size < items2.size)) q)))) s) :=
  .of_wp fun prog w A R s h => by
    obtain ⟨hp, g, d, tk, os⟩ := s; obtain ⟨hl, hb, hx, h⟩ := h
    have f2 := AutoSeq1.sub_tuple_tuple
    wp_walk using wpAny_loadPart' hl, wpAny_loadPart' hb, wpAny_forIn_list _ (fun rest b s' => b.1 = none ∧ s' = ⟨hp, g, d, tk, os⟩ ∧ ∃ (vs ws : List Value) (q' : List (Bool × Bool)), rest = vs.zip ws ∧
      LexAt A.in1 ⟨hp, g, d, tk, os⟩ vs ws q' ∧ R (.ok (.ret (.bool (lexV (decide (items.size < items2.size)) q')))) ⟨hp, g, d, tk, os⟩) _
    case turn =>
      rintro ⟨y, x⟩ rest b s' ⟨hb', rfl, vs, ws, q', hz, hlx, hR⟩
      match vs, ws, q', hz, hlx, hR with
      | [], _, _, hz, _, _ => rw [List.zip_nil_left] at hz; cases hz
      | _ :: _, [], _, hz, _, _ => rw [List.zip_nil_right] at hz; cases hz
      | v :: vs, w' :: ws, [], _, hlx, _ => exact hlx.elim
      | v :: vs, w' :: ws, (e, lo) :: q', hz, hlx, hR =>
        rw [List.zip_cons_cons] at hz
        injection hz with hyx hrest
        injection hyx with hy hx'
        subst hy hx'
        obtain ⟨he, hlt, hlx⟩ := hlx
        refine wpAny_bind (he prog w _ _ ?_)
        cases e with
        | true =>
          wp_walk
          exact ⟨rfl, rfl, _, _, _, hrest, hlx rfl, hR⟩
        | false =>
          have hri := hlt rfl prog w
          wp_walk using hri
          exact ⟨_, rfl, hR⟩
    case fin =>
      rintro ⟨b1, b2⟩ s' ⟨hb', rfl, vs, ws, q', hz, hlx, hR⟩
      simp only at hb'
      subst hb'
      have hq : q' = [] := by
        match vs, ws, q', hz, hlx with
        | [], _, _, _, hlx => unfold LexAt at hlx; exact hlx
        | _ :: _, [], _, _, hlx => unfold LexAt at hlx; exact hlx
        | _ :: _, _ :: _, _, hz, _ => rw [List.zip_cons_cons] at hz; cases hz
      subst hq
      wp_walk
      exact ⟨_, rfl, by simpa [Builtin.Tuple.tupleCompareSizes, lexV] using hR⟩
    case h =>
      exact ⟨rfl, rfl, items.toList, items2.toList, q, rfl, hx, h⟩
theorem tuple_ltAt {A : Around} {s : Shared} {l b : Addr} {items items2 : Array Value} {q : List (Bool × Bool)} (hl : s.heap.IsTuple l items) (hb : s.heap.IsTuple b items2) (hu : A.units < cLine)
    (hx : LexAt A.in1 s items.toList items2.toList q) : LtAt A s (.ref l) (.ref b) (lexV (decide (items.size < items2.size)) q) := by
  intro prog w E Q h
  obtain ⟨⟨cls, dd, data, sl⟩, ho, hc, n, hd⟩ := id hl
  obtain ⟨⟨cls2, dd2, data2, sl2⟩, ho2, hc2, n2, hd2⟩ := id hb
  simp only at hc hd hc2 hd2
  subst hc hd hc2 hd2
  exact richCompare_meets_room (op := .Lt) ⟨_, ho, rfl⟩ ⟨_, ho2, rfl⟩ PySem.F.slot_tuple_lt PySem.F.entry_tuple_lt (PySem.F.args_tuple_lt_2 _ _) (tuple_lt_any l b items items2 n n2 dd dd2 sl sl2 q)
    ⟨ho, ho2, hx, show Value.bool (lexV (decide (items.size < items2.size)) q) ≠ Value.notImplemented ∧ Q (.bool (lexV (decide (items.size < items2.size)) q)) s from ⟨(fun x => nomatch x), h⟩⟩ hu
end Tre
set_option Elab.async false
set_option linter.all false
set_option maxRecDepth 100000
set_option maxHeartbeats 1000000
namespace Tre
open PySem L2
inductive Co where
  | non
  | num (i : Int)
  | str (l : List Nat)
  | tup (cs : List Co)
  | ls
def Co.kind : Co → Nat
  | .non => 0
  | .num _ => 1
  | .str _ => 2
  | .tup _ => 3
  | .ls => 4
mutual
def code : Tr → Co
  | .non => .non
  | .bl b => .num (if b then 1 else 0)
  | .int i => .num i
  | .str x => .str x.cps.toList
  | .tup ts => .tup (codes ts)
  | .ls => .ls
def codes : List Tr → List Co
  | [] => []
  | t :: ts => code t :: codes ts
end
theorem str_beq (x y : Str) : ((x == y) = true) ↔ x.cps.toList = y.cps.toList := by
  rw [beq_iff_eq]
  constructor
  · rintro rfl
    rfl
  · intro h
    cases x
    cases y
    simp only [Str.mk.injEq]
    exact Array.toList_inj.mp h
mutual
theorem eqT_code : ∀ (t u : Tr), (eqT t u = true) ↔ code t = code u
  | .non, u => by cases u <;> simp [eqT, code]
  | .bl a, u => by cases u <;> simp [eqT, code]; cases a <;> rename_i b <;> cases b <;> simp
  | .int i, u => by cases u <;> simp [eqT, code]
  | .str x, .str y => by simp only [eqT, code, Co.str.injEq]; exact str_beq x y
  | .str x, .non => by simp [eqT, code]
  | .str x, .bl _ => by simp [eqT, code]
  | .str x, .int _ => by simp [eqT, code]
  | .str x, .tup _ => by simp [eqT, code]
  | .str x, .ls => by simp [eqT, code]
  | .ls, u => by cases u <;> simp [eqT, code]
  | .tup ts, .tup us => by simp only [eqT, code, Co.tup.injEq]; exact eqTs_code ts us
  | .tup ts, .non => by simp [eqT, code]
  | .tup ts, .bl _ => by simp [eqT, code]
  | .tup ts, .int _ => by simp [eqT, code]
  | .tup ts, .str _ => by simp [eqT, code]
  | .tup ts, .ls => by simp [eqT, code]
theorem eqTs_code : ∀ (ts us : List Tr), (eqTs ts us = true) ↔ codes ts = codes us
  | [], [] => by simp [eqTs, codes]
  | [], u :: us => by simp [eqTs, codes]
  | t :: ts, [] => by simp [eqTs, codes]
  | t :: ts, u :: us => by
    simp only [eqTs, codes, Bool.and_eq_true, List.cons.injEq]
    rw [eqT_code t u, eqTs_code ts us]
end
mutual
def LtC : Co → Co → Prop
  | .num i, .num j => i < j
  | .str l, .str m => l < m
  | .tup cs, .tup ds => LtCs cs ds
  | c, d => c.kind < d.kind
def LtCs : List Co → List Co → Prop
  | [], [] => False
  | [], _ :: _ => True
  | _ :: _, [] => False
  | c :: cs, d :: ds => LtC c d ∨ (c = d ∧ LtCs cs ds)
end
theorem ltC_kind {c d : Co} (h : LtC c d) : c.kind ≤ d.kind := by
  cases c <;> cases d <;> simp [LtC, Co.kind] at h ⊢
theorem ltC_of_kind {c d : Co} (h : c.kind < d.kind) : LtC c d := by
  cases c <;> cases d <;> simp [LtC, Co.kind] at h ⊢
mutual
theorem ltC_irr : ∀ c : Co, ¬ LtC c c
  | .non => by simp [LtC, Co.kind]
  | .num _ => by simp [LtC]
  | .str l => by simp only [LtC]; exact List.lt_irrefl l
  | .tup cs => by simp only [LtC]; exact ltCs_irr cs
  | .ls => by simp [LtC, Co.kind]
theorem ltCs_irr : ∀ cs : List Co, ¬ LtCs cs cs
  | [] => by simp [LtCs]
  | c :: cs => by
    simp only [LtCs, not_or]
    exact ⟨ltC_irr c, fun h => ltCs_irr cs h.2⟩
end
mutual
theorem ltC_tri : ∀ c d : Co, LtC c d ∨ c = d ∨ LtC d c
  | .num i, .num j => by simp only [LtC, Co.num.injEq]; omega
  | .str l, .str m => by
    simp only [LtC, Co.str.injEq]
    by_cases h1 : l < m
    · exact .inl h1
    · by_cases h2 : m < l
      · exact .inr (.inr h2)
      · exact .inr (.inl (List.le_antisymm (List.not_lt.mp h2) (List.not_lt.mp h1)))
  | .tup cs, .tup ds => by simp only [LtC, Co.tup.injEq]; exact ltCs_tri cs ds
  | .non, d => by cases d <;> simp [LtC, Co.kind]
  | .ls, d => by cases d <;> simp [LtC, Co.kind]
  | .num i, .non => by simp [LtC, Co.kind]
  | .num i, .str _ => by simp [LtC, Co.kind]
  | .num i, .tup _ => by simp [LtC, Co.kind]
  | .num i, .ls => by simp [LtC, Co.kind]
  | .str i, .non => by simp [LtC, Co.kind]
  | .str i, .num _ => by simp [LtC, Co.kind]
  | .str i, .tup _ => by simp [LtC, Co.kind]
  | .str i, .ls => by simp [LtC, Co.kind]
  | .tup i, .non => by simp [LtC, Co.kind]
  | .tup i, .num _ => by simp [LtC, Co.kind]
  | .tup i, .str _ => by simp [LtC, Co.kind]
  | .tup i, .ls => by simp [LtC, Co.kind]
theorem ltCs_tri : ∀ cs ds : List Co, LtCs cs ds ∨ cs = ds ∨ LtCs ds cs
  | [], [] => by simp
  | [], d :: ds => by simp [LtCs]
  | c :: cs, [] => by simp [LtCs]
  | c :: cs, d :: ds => by
    simp only [LtCs, List.cons.injEq]
    rcases ltC_tri c d with h | h | h
    · exact .inl (.inl h)
    · rcases ltCs_tri cs ds with g | g | g
      · exact .inl (.inr ⟨h, g⟩)
      · exact .inr (.inl ⟨h, g⟩)
      · exact .inr (.inr (.inr ⟨h.symm, g⟩))
    · exact .inr (.inr (.inl h))
end
theorem ltC_mixed {a b c : Co} (h1 : LtC a b) (h2 : LtC b c) (hk : a.kind < b.kind ∨ b.kind < c.kind) : LtC a c := by
  have k1 := ltC_kind h1
  have k2 := ltC_kind h2
  exact ltC_of_kind (by omega)
mutual
theorem ltC_trans : ∀ {a b c : Co}, LtC a b → LtC b c → LtC a c
  | .num i, .num j, .num k, h1, h2 => by simp only [LtC] at *; omega
  | .str i, .str j, .str k, h1, h2 => by simp only [LtC] at *; exact List.lt_trans h1 h2
  | .tup i, .tup j, .tup k, h1, h2 => by simp only [LtC] at *; exact ltCs_trans h1 h2
  | .num _, .num _, .str _, h1, h2 => ltC_mixed h1 h2 (by simp [LtC, Co.kind] at h1 h2 ⊢)
  | .num _, .num _, .tup _, h1, h2 => ltC_mixed h1 h2 (by simp [LtC, Co.kind] at h1 h2 ⊢)
  | .num _, .num _, .non, h1, h2 => ltC_mixed h1 h2 (by simp [LtC, Co.kind] at h1 h2 ⊢)
  | .num _, .num _, .ls, h1, h2 => ltC_mixed h1 h2 (by simp [LtC, Co.kind] at h1 h2 ⊢)
  | .num _, .str _, _, h1, h2 => ltC_mixed h1 h2 (by simp [LtC, Co.kind] at h1 h2 ⊢)
  | .num _, .tup _, _, h1, h2 => ltC_mixed h1 h2 (by simp [LtC, Co.kind] at h1 h2 ⊢)
  | .num _, .non, _, h1, h2 => ltC_mixed h1 h2 (by simp [LtC, Co.kind] at h1 h2 ⊢)
  | .num _, .ls, _, h1, h2 => ltC_mixed h1 h2 (by simp [LtC, Co.kind] at h1 h2 ⊢)
  | .str _, .str _, .num _, h1, h2 => ltC_mixed h1 h2 (by simp [LtC, Co.kind] at h1 h2 ⊢)
  | .str _, .str _, .tup _, h1, h2 => ltC_mixed h1 h2 (by simp [LtC, Co.kind] at h1 h2 ⊢)
  | .str _, .str _, .non, h1, h2 => ltC_mixed h1 h2 (by simp [LtC, Co.kind] at h1 h2 ⊢)
  | .str _, .str _, .ls, h1, h2 => ltC_mixed h1 h2 (by simp [LtC, Co.kind] at h1 h2 ⊢)
  | .str _, .num _, _, h1, h2 => ltC_mixed h1 h2 (by simp [LtC, Co.kind] at h1 h2 ⊢)
  | .str _, .tup _, _, h1, h2 => ltC_mixed h1 h2 (by simp [LtC, Co.kind] at h1 h2 ⊢)
  | .str _, .non, _, h1, h2 => ltC_mixed h1 h2 (by simp [LtC, Co.kind] at h1 h2 ⊢)
  | .str _, .ls, _, h1, h2 => ltC_mixed h1 h2 (by simp [LtC, Co.kind] at h1 h2 ⊢)
  | .tup _, .tup _, .num _, h1, h2 => ltC_mixed h1 h2 (by simp [LtC, Co.kind] at h1 h2 ⊢)
  | .tup _, .tup _, .str _, h1, h2 => ltC_mixed h1 h2 (by simp [LtC, Co.kind] at h1 h2 ⊢)
  | .tup _, .tup _, .non, h1, h2 => ltC_mixed h1 h2 (by simp [LtC, Co.kind] at h1 h2 ⊢)
  | .tup _, .tup _, .ls, h1, h2 => ltC_mixed h1 h2 (by simp [LtC, Co.kind] at h1 h2 ⊢)
  | .tup _, .num _, _, h1, h2 => ltC_mixed h1 h2 (by simp [LtC, Co.kind] at h1 h2 ⊢)
  | .tup _, .str _, _, h1, h2 => ltC_mixed h1 h2 (by simp [LtC, Co.kind] at h1 h2 ⊢)
  | .tup _, .non, _, h1, h2 => ltC_mixed h1 h2 (by simp [LtC, Co.kind] at h1 h2 ⊢)
  | .tup _, .ls, _, h1, h2 => ltC_mixed h1 h2 (by simp [LtC, Co.kind] at h1 h2 ⊢)
  | .non, b, _, h1, h2 => ltC_mixed h1 h2 (by cases b <;> simp [LtC, Co.kind] at h1 h2 ⊢)
  | .ls, b, _, h1, h2 => ltC_mixed h1 h2 (by cases b <;> simp [LtC, Co.kind] at h1 h2 ⊢)
theorem ltCs_trans : ∀ {a b c : List Co}, LtCs a b → LtCs b c → LtCs a c
  | [], [], _, h1, _ => by simp [LtCs] at h1
  | [], _ :: _, [], _, h2 => by simp [LtCs] at h2
  | [], _ :: _, _ :: _, _, _ => by simp [LtCs]
  | _ :: _, [], _, h1, _ => by simp [LtCs] at h1
  | _ :: _, _ :: _, [], _, h2 => by simp [LtCs] at h2
  | x :: a, y :: b, z :: c, h1, h2 => by
    simp only [LtCs] at *
    rcases h1 with h1 | ⟨e1, h1⟩
    · rcases h2 with h2 | ⟨e2, h2⟩
      · exact .inl (ltC_trans h1 h2)
      · exact .inl (e2 ▸ h1)
    · rcases h2 with h2 | ⟨e2, h2⟩
      · exact .inl (e1 ▸ h2)
      · exact .inr ⟨e1.trans e2, ltCs_trans h1 h2⟩
end
open Classical in
noncomputable def ltT (t u : Tr) : Bool := decide (LtC (code t) (code u))
open Classical in
theorem ltT_iff {t u : Tr} : (ltT t u = true) ↔ LtC (code t) (code u) := by
  unfold ltT
  exact decide_eq_true_iff
theorem ltT_asym {t u : Tr} (h : ltT t u = true) : ltT u t = false := by
  cases e : ltT u t with
  | false => rfl
  | true => exact absurd (ltC_trans (ltT_iff.mp h) (ltT_iff.mp e)) (ltC_irr _)
theorem ltT_le {a b c : Tr} (h1 : ltT b a = false) (h2 : ltT c b = false) : ltT c a = false := by
  cases e : ltT c a with
  | false => rfl
  | true =>
    have n1 : ¬ LtC (code b) (code a) := fun z => by rw [ltT_iff.mpr z] at h1; cases h1
    have n2 : ¬ LtC (code c) (code b) := fun z => by rw [ltT_iff.mpr z] at h2; cases h2
    have l := ltT_iff.mp e
    rcases ltC_tri (code a) (code b) with q | q | q
    · exact absurd (ltC_trans l q) n2
    · rw [q] at l
      exact absurd l n2
    · exact absurd q n1
end Tre
set_option Elab.async false
set_option linter.all false
set_option maxRecDepth 100000
set_option maxHeartbeats 1000000
namespace Tre
open PySem PySem.Spec PyProof.Rows L2
mutual
def Cm : Tr → Tr → Prop
  | .bl _, .bl _ => True
  | .int _, .int _ => True
  | .str _, .str _ => True
  | .tup ts, .tup us => Cms ts us
  | _, _ => False
def Cms : List Tr → List Tr → Prop
  | t :: ts, u :: us => (eqT t u = true ∧ Cms ts us) ∨ (eqT t u = false ∧ Cm t u)
  | [], _ => True
  | _ :: _, [] => True
end
noncomputable def qs : List Tr → List Tr → List (Bool × Bool)
  | t :: ts, u :: us => (eqT t u, ltT t u) :: qs ts us
  | [], _ => []
  | _ :: _, [] => []
theorem lexV_qs : ∀ (ts us : List Tr), (lexV (decide (ts.length < us.length)) (qs ts us) = true) ↔ LtCs (codes ts) (codes us)
  | [], [] => by simp [qs, lexV, codes, LtCs]
  | [], u :: us => by simp [qs, lexV, codes, LtCs]
  | t :: ts, [] => by simp [qs, lexV, codes, LtCs]
  | t :: ts, u :: us => by
    have ih := lexV_qs ts us
    have e : decide ((t :: ts).length < (u :: us).length) = decide (ts.length < us.length) := by simp
    rw [e]
    simp only [qs, lexV, codes, LtCs]
    by_cases h : eqT t u = true
    · rw [if_pos h, ih]
      have hc := (eqT_code t u).mp h
      rw [hc]
      constructor
      · intro z
        exact .inr ⟨rfl, z⟩
      · rintro (z | ⟨_, z⟩)
        · exact absurd z (ltC_irr _)
        · exact z
    · rw [if_neg h]
      have hc : ¬ code t = code u := fun z => h ((eqT_code t u).mpr z)
      constructor
      · intro z
        exact .inl (ltT_iff.mp z)
      · rintro (z | ⟨z, _⟩)
        · exact ltT_iff.mpr z
        · exact absurd z hc
theorem bool_of_iff {a b : Bool} (h : (a = true) ↔ (b = true)) : a = b := Bool.eq_iff_iff.mpr h
section
variable {X : Cx} {pins : List (Addr × Obj)} {σ : L2.St} {H : Hp} {s : Shared}
theorem lex_of (I : Inv X pins σ H s) {n : Nat} {A : Around} (hu : A.units + n + 1 < cLine)
    (ih : ∀ {t u : Tr} {v w : V} {a b : Value}, t.depth ≤ n → (t.pure ∨ u.pure) → Cm t u → TrAt H v t → TrAt H w u → RelV v a → RelV w b → LtAt A s a b (ltT t u)) :
    ∀ {ts us : List Tr} {vs ws : List V} {as bs : List Value}, Trs.depth ts ≤ n → (Trs.pure ts ∨ Trs.pure us) → Cms ts us → TrsAt H vs ts → TrsAt H ws us → Vals vs as → Vals ws bs → LexAt A s as bs (qs ts us)
  | [], us, vs, ws, as, bs, hd, hp, hc, h1, h2, r1, r2 => by
    unfold TrsAt at h1
    subst h1
    cases r1
    cases us <;> simp [LexAt, qs]
  | t :: ts, [], vs, ws, as, bs, hd, hp, hc, h1, h2, r1, r2 => by
    unfold TrsAt at h2
    subst h2
    cases r2
    obtain ⟨v, r, rfl, _, _⟩ := h1.inv
    cases r1
    simp [LexAt, qs]
  | t :: ts, u :: us, vs, ws, as, bs, hd, hp, hc, h1, h2, r1, r2 => by
    obtain ⟨v, r, rfl, g1, g2⟩ := h1.inv
    obtain ⟨v', r', rfl, g3, g4⟩ := h2.inv
    unfold Trs.depth at hd
    have hp1 : t.pure ∨ u.pure := by
      rcases hp with hp | hp <;> unfold Trs.pure at hp
      · exact .inl hp.1
      · exact .inr hp.1
    have hp2 : Trs.pure ts ∨ Trs.pure us := by
      rcases hp with hp | hp <;> unfold Trs.pure at hp
      · exact .inl hp.2
      · exact .inr hp.2
    cases r1 with
    | cons q1 q2 =>
      cases r2 with
      | cons q3 q4 =>
        simp only [LexAt, qs]
        refine ⟨tr_eqAt I n (by omega) hp1 g1 g3 q1 q3 hu, fun e => ?_, fun e => ?_⟩
        · unfold Cms at hc
          rcases hc with ⟨e', _⟩ | ⟨_, hc⟩
          · rw [e] at e'
            cases e'
          · exact ih (by omega) hp1 hc g1 g3 q1 q3
        · unfold Cms at hc
          rcases hc with ⟨_, hc⟩ | ⟨e', _⟩
          · exact lex_of I hu ih (by omega) hp2 hc g2 g4 q2 q4
          · rw [e] at e'
            cases e'
theorem sc_ltAt {A : Around} {t u : Tr} {v w : V} {a b : Value} (hd : ∀ ts, t ≠ .tup ts) (hc : Cm t u) (h1 : TrAt H v t) (h2 : TrAt H w u) (r1 : RelV v a) (r2 : RelV w b) : LtAt A s a b (ltT t u) := by
  cases t <;> cases u <;> unfold Cm at hc <;> first | exact hc.elim | skip
  · rename_i x y
    unfold TrAt at h1 h2
    subst h1 h2
    cases (show a = Value.bool x from r1)
    cases (show b = Value.bool y from r2)
    intro prog w' E Q h
    refine lt_bool ?_
    have e : decide (b2i x < b2i y) = ltT (.bl x) (.bl y) := by
      refine bool_of_iff ?_
      rw [ltT_iff, decide_eq_true_iff]
      cases x <;> cases y <;> simp [code, LtC, b2i]
    rw [e]
    exact h
  · rename_i x y
    unfold TrAt at h1 h2
    subst h1 h2
    obtain ⟨t1, rfl⟩ := r1
    obtain ⟨t2, rfl⟩ := r2
    intro prog w' E Q h
    refine lt_int ?_
    have e : decide (x < y) = ltT (.int x) (.int y) := by
      refine bool_of_iff ?_
      rw [ltT_iff, decide_eq_true_iff]
      simp [code, LtC]
    rw [e]
    exact h
  · rename_i x y
    unfold TrAt at h1 h2
    subst h1 h2
    obtain ⟨t1, rfl⟩ := r1
    obtain ⟨t2, rfl⟩ := r2
    intro prog w' E Q h
    refine lt_str ?_
    have e : decide (x.cps.toList < y.cps.toList) = ltT (.str x) (.str y) := by
      refine bool_of_iff ?_
      rw [ltT_iff, decide_eq_true_iff]
      simp [code, LtC]
    rw [e]
    exact h
  · exact (hd _ rfl).elim
theorem tr_ltAt (I : Inv X pins σ H s) : ∀ (n : Nat) {A : Around} {t u : Tr} {v w : V} {a b : Value}, t.depth ≤ n → (t.pure ∨ u.pure) → Cm t u → TrAt H v t → TrAt H w u → RelV v a → RelV w b → A.units + n + 1 < cLine → LtAt A s a b (ltT t u) := by
  intro n
  induction n with
  | zero =>
    intro A t u v w a b hd hp hc h1 h2 r1 r2 hu
    refine sc_ltAt (fun ts e => ?_) hc h1 h2 r1 r2
    subst e
    simp [Tr.depth] at hd
  | succ n ih =>
    intro A t u v w a b hd hp hc h1 h2 r1 r2 hu
    cases t with
    | tup ts =>
      cases u <;> first | (unfold Cm at hc; exact hc.elim) | skip
      rename_i us
      unfold Cm at hc
      unfold TrAt at h1 h2
      obtain ⟨r0, vs0, rfl, g0, k0⟩ := h1
      obtain ⟨r, vs, rfl, g1, k1⟩ := h2
      cases r1
      cases r2
      obtain ⟨as, q0, p0, _⟩ := I.tuple (SqT.of g0)
      obtain ⟨bs, q1, p1, _⟩ := I.tuple (SqT.of g1)
      unfold Tr.depth at hd
      have hp' : Trs.pure ts ∨ Trs.pure us := by
        rcases hp with hp | hp <;> unfold Tr.pure at hp
        · exact .inl hp
        · exact .inr hp
      have hu1 : A.in1.units + n + 1 < cLine := by show A.units + 1 + n + 1 < cLine; omega
      have hx := lex_of (A := A.in1) I hu1 (fun d pp cc a1 a2 b1 b2 => ih d pp cc a1 a2 b1 b2 hu1) (by omega) hp' hc k0 k1 q0 q1
      have := tuple_ltAt (A := A) (show s.heap.IsTuple r0 as.toArray from p0) (show s.heap.IsTuple r bs.toArray from p1) (by omega) (by simpa using hx)
      have e : lexV (decide (as.toArray.size < bs.toArray.size)) (qs ts us) = ltT (.tup ts) (.tup us) := by
        have l0 := k0.len
        have l1 := k1.len
        have l2 := q0.length
        have l3 := q1.length
        have e2 : decide (as.toArray.size < bs.toArray.size) = decide (ts.length < us.length) := by
          rw [List.size_toArray, List.size_toArray, ← l2, ← l3, l0, l1]
        rw [e2]
        refine bool_of_iff ?_
        rw [lexV_qs, ltT_iff]
        simp [code, LtC]
      rw [← e]
      exact this
    | _ => exact sc_ltAt (fun ts e => by cases e) hc h1 h2 r1 r2
end
end Tre
set_option Elab.async false
set_option linter.all false
set_option maxRecDepth 100000
set_option maxHeartbeats 2000000
namespace Srt
open PySem PySem.W PySem.Calls PyProof.Rows
theorem range_get {α : Type} (d : α) : ∀ (vs : List α), (List.range vs.length).map (fun i => vs.getD i d) = vs
  | [] => rfl
  | v :: vs => by
    rw [List.length_cons, List.range_succ_eq_map, List.map_cons, List.map_map]
    have := range_get d vs
    simp only [Function.comp_def]
    show v :: List.map (fun i => vs.getD i d) (List.range vs.length) = v :: vs
    rw [this]
theorem zip_snd {α : Type} : ∀ (vs : List α), List.map (fun x => x.snd) (vs.zip vs) = vs
  | [] => rfl
  | v :: vs => by
    rw [List.zip_cons_cons, List.map_cons, zip_snd vs]
section
variable {prog : Program} {w : World} {A : Around} {E : Value → Shared → Prop} {s : Shared} {lt : Nat → Nat → Bool} {κ : SortKind}
def Stay (s : Shared) (a : Addr) (h' : Heap) : Prop := ∀ b o, b ≠ a → s.heap.get? b = some o → h'.get? b = some o
theorem list_sort_any {a : Addr} {vs : List Value} {n : Nat} {P : PySem.Fin → Shared → Prop} (O : Ord lt) (ho : s.heap.get? a = some (seqObj "list" vs.toArray n)) (h64 : vs.length < 64)
    (hkind : 2 ≤ vs.length → ∀ h', Stay s a h' → ∀ R : SortKind → Shared → Prop, R κ { s with heap := h' } → wpAny (model prog w) A (keyKind' vs.toArray) R E { s with heap := h' })
    (hask : ∀ h', Stay s a h' → ∀ i j (R : Bool → Shared → Prop), i < vs.length → j < vs.length → R (lt i j) { s with heap := h' } → kas_ask prog w A κ vs i j R { s with heap := h' })
    (h : ∀ p : Array Nat, Pm vs.length p → Up lt p vs.length → P (.done (.ret .none)) { s with heap := sortedHeap s.heap a vs (List.toArray (p.toList.map fun i => vs.getD i Value.none)) }) :
    wpAny (model prog w) A (Builtin.«list.sort» ⟨[.ref a], []⟩) P E s := by
  have ha : a < s.heap.objs.size := Heap.lt_size ho
  rw [list_sort_plain]
  refine wpAny_bind (listItems_at ho rfl ?_)
  refine wpAny_bind (listUpdate_at ho rfl ?_ (by rw [List.size_toArray, sizeLine_eq]; omega) (Nat.zero_le _))
  obtain ⟨e1, ho1⟩ : ∃ e1, (s.heap.update a (Obj.mapSeq fun _ => (#[] : Array Value))).get? a = some (seqObj "list" #[] e1) := ⟨_, get?_update_seq ho fun _ => #[]⟩
  refine wpAny_bind (seqEpoch_at ho1 rfl ?_)
  refine wpAny_bind (wpAny_newTuple ?_ (by show vs.length ≤ _; rw [sizeLine_eq]; omega))
  refine wpAny_bind (wpAny_newList ?_ (Nat.zero_le _))
  refine wpAny_holding ?_
  have s1 := Heap.SameBut.update s.heap a (Obj.mapSeq fun _ => (#[] : Array Value))
  have st : Stay s a (((s.heap.update a (Obj.mapSeq fun _ => (#[] : Array Value))).push (seqObj "tuple" vs.toArray 0)).push (seqObj "list" #[] 0)) := fun b o hb e =>
    Heap.get?_push_of_some _ (Heap.get?_push_of_some _ ((s1.2 b hb).trans e))
  have ho6 : (((s.heap.update a (Obj.mapSeq fun _ => (#[] : Array Value))).push (seqObj "tuple" vs.toArray 0)).push (seqObj "list" #[] 0)).get? a = some (seqObj "list" #[] e1) := Heap.get?_push_of_some _ (Heap.get?_push_of_some _ ho1)
  show wpAny (model prog w) A _ P E { s with heap := ((s.heap.update a (Obj.mapSeq fun _ => (#[] : Array Value))).push (seqObj "tuple" vs.toArray 0)).push (seqObj "list" #[] 0) }
  dsimp only
  have out : ∀ p : Array Nat, Pm vs.length p → (List.toArray (p.toList.map fun i => vs.getD i Value.none)).size ≤ sizeLine := fun p hp => by
    rw [List.size_toArray, List.length_map, Array.length_toList, hp.size, sizeLine_eq]
    omega
  by_cases h2 : vs.toArray.size < 2
  · rw [if_pos h2, if_pos h2]
    refine wpAny_bind (wpAny_pure ?_)
    rw [StateT.run_pure]
    refine wpAny_bind (wpAny_pure ?_)
    dsimp only
    refine wpAny_bind (seqEpoch_at ho6 rfl ?_)
    have h0 : Pm vs.length (List.toArray (List.range vs.length)) := by
      unfold Pm
      simp
    have eo : (arrOf (SortSt.mk' general' (vs.toArray.zip vs.toArray) #[] 7 none)).map (·.2) = List.toArray ((List.toArray (List.range vs.length)).toList.map fun i => vs.getD i Value.none) := by
      rw [List.toList_toArray, range_get]
      show (vs.toArray.zip vs.toArray).map (·.2) = vs.toArray
      apply Array.toList_inj.mp
      simp
      exact zip_snd vs
    rw [eo]
    refine wpAny_bind (listUpdate_at ho6 rfl ?_ (Nat.zero_le _) (Nat.le_succ_of_le (out _ h0)))
    simp only [bne_self_eq_false, Bool.false_eq_true, if_false]
    refine wpAny_pure (h _ h0 fun i j hij hj => ?_)
    have hv : vs.length < 2 := by simpa using h2
    have : i = j := by omega
    subst this
    exact O.refl _
  · rw [if_neg h2, if_neg h2]
    have h2' : 2 ≤ vs.length := by
      rw [List.size_toArray] at h2
      omega
    refine wpAny_bind (hkind h2' _ st _ ?_)
    have run : (kas_sort vs.length).kasWp (kas_ask prog w A κ vs) (fun p s' => (Pm vs.length p ∧ Up lt p vs.length) ∧ s' = { s with heap := ((s.heap.update a (Obj.mapSeq fun _ => (#[] : Array Value))).push (seqObj "tuple" vs.toArray 0)).push (seqObj "list" #[] 0) })
        { s with heap := ((s.heap.update a (Obj.mapSeq fun _ => (#[] : Array Value))).push (seqObj "tuple" vs.toArray 0)).push (seqObj "list" #[] 0) } :=
      tri_wp (lt := lt) (N := vs.length) (G := fun s' => s' = { s with heap := ((s.heap.update a (Obj.mapSeq fun _ => (#[] : Array Value))).push (seqObj "tuple" vs.toArray 0)).push (seqObj "list" #[] 0) })
        (fun i j R s' hi hj hg hR => by subst hg; exact hask _ st i j R hi hj (hR _ rfl)) (fun p s' hp hg => ⟨hp, hg⟩) (t_sort O (by omega)) rfl
    refine wpAny_bind (wpAny_mono (kat_run (ks := vs) (Q := fun st' s' => ∃ p : Array Nat, (Pm vs.length p ∧ Up lt p vs.length) ∧ arrOf st' = p.map (kas_item (vs.toArray.zip vs.toArray)) ∧ failedOf st' = none ∧ s' = { s with heap := ((s.heap.update a (Obj.mapSeq fun _ => (#[] : Array Value))).push (seqObj "tuple" vs.toArray 0)).push (seqObj "list" #[] 0) })
      rfl h2' h64 (fun p st' s' a1 a2 a3 a4 => ⟨p, a4.1, a2, a3, a4.2⟩) run) ?_ fun _ _ e => e)
    rintro ⟨⟨⟩, st'⟩ s' ⟨p, hp, har, hf, rfl⟩
    dsimp only
    refine wpAny_bind (seqEpoch_at ho6 rfl ?_)
    rw [kat_snds rfl har]
    refine wpAny_bind (listUpdate_at ho6 rfl ?_ (Nat.zero_le _) (Nat.le_succ_of_le (out p hp.1)))
    rw [hf]
    simp only [bne_self_eq_false, Bool.false_eq_true, if_false]
    exact wpAny_pure (h p hp.1 hp.2)
theorem sorted_any {l : Addr} {vs : List Value} {Q : Value → Shared → Prop} (O : Ord lt) (hl : s.heap.IsList l vs.toArray) (h64 : vs.length < 64)
    (hkind : 2 ≤ vs.length → ∀ h', (∀ b o, s.heap.get? b = some o → h'.get? b = some o) → ∀ (E' : Value → Shared → Prop) (R : SortKind → Shared → Prop), R κ { s with heap := h' } → wpAny (model prog w) A.in1.in1 (keyKind' vs.toArray) R E' { s with heap := h' })
    (hask : ∀ h', (∀ b o, s.heap.get? b = some o → h'.get? b = some o) → ∀ i j (R : Bool → Shared → Prop), i < vs.length → j < vs.length → R (lt i j) { s with heap := h' } → kas_ask prog w A.in1.in1 κ vs i j R { s with heap := h' })
    (h : ∀ p : Array Nat, Pm vs.length p → Up lt p vs.length → Q (.ref (s.heap.objs.size + 1)) { s with heap := sortedAll s.heap vs (List.toArray (p.toList.map fun i => vs.getD i Value.none)) }) :
    wpAny (model prog w) A (call (.builtin "sorted") [.ref l]) Q E s := by
  refine Calls.call_function_entry kind_sorted plain_sorted entry_sorted (args_sorted1 _) ?_
  unfold Builtin.«sorted»
  refine wpAny_bind (m := checkCount "sorted" 1 1 _) (wpAny_pure ?_)
  refine wpAny_bind (collect_list hl ?_ (by rw [sizeLine_eq]; omega))
  refine wpAny_bind (wpAny_newList ?_ (by rw [sizeLine_eq]; omega))
  have hsz : ((s.heap.push (seqObj "list" #[] 0)).update s.heap.objs.size (Obj.mapSeq (· ++ vs.toArray))).objs.size = s.heap.objs.size + 1 := by
    rw [Heap.size_update, size_push']
  have hoL : (((s.heap.push (seqObj "list" #[] 0)).update s.heap.objs.size (Obj.mapSeq (· ++ vs.toArray))).push (seqObj "list" vs.toArray 0)).get? (s.heap.objs.size + 1) = some (seqObj "list" vs.toArray 0) := by
    rw [← hsz]; exact Heap.get?_push_size _ rfl
  have keep : ∀ b o, s.heap.get? b = some o → (((s.heap.push (seqObj "list" #[] 0)).update s.heap.objs.size (Obj.mapSeq (· ++ vs.toArray))).push (seqObj "list" vs.toArray 0)).get? b = some o ∧ b ≠ s.heap.objs.size + 1 := fun b o q => by
    have hlt : b < s.heap.objs.size := Heap.lt_size q
    refine ⟨?_, Nat.ne_of_lt (Nat.lt_succ_of_lt hlt)⟩
    rw [Heap.get?_push_ne _ _ _ (by rw [hsz]; exact Nat.ne_of_lt (Nat.lt_succ_of_lt hlt)), Heap.get?_update_ne _ _ _ _ (Nat.ne_of_lt hlt), Heap.get?_push_ne _ _ _ (Nat.ne_of_lt hlt)]
    exact q
  show wpAny _ _ _ _ _ { s with heap := ((s.heap.push (seqObj "list" #[] 0)).update s.heap.objs.size (Obj.mapSeq (· ++ vs.toArray))).push (seqObj "list" vs.toArray 0) }
  rw [hsz]
  refine wpAny_bind (wpAny_holding (wpAny_call_entry slot_list_sort ⟨_, hoL, rfl⟩ entry_list_sort (list_sort_any (lt := lt) (κ := κ) O hoL h64 (fun h2 h' st R hR => hkind h2 h' (fun b o e => st b o (keep b o e).2 (keep b o e).1) _ R hR)
    (fun h' st i j R hi hj hR => hask h' (fun b o e => st b o (keep b o e).2 (keep b o e).1) i j R hi hj hR) fun p a1 a2 => ⟨_, rfl, ?_⟩) (args_list_sort _)))
  exact wpAny_pure ⟨_, rfl, h p a1 a2⟩
end
end Srt
set_option Elab.async false
set_option linter.all false
set_option maxRecDepth 100000
set_option maxHeartbeats 1000000
namespace Tre
open PySem PySem.Spec PyProof.Rows L2 Srt
theorem katlex_of {prog : Program} {w : World} {A : Around} {s : Shared} {fin : Bool} {Q : Bool → Shared → Prop} : ∀ {as bs : List Value} {q : List (Bool × Bool)} {i : Nat}, LexAt A s as bs q → Q (lexV fin q) s → PySem.W.KatLex prog w A false fin Q (as.zip bs) i s
  | [], _, q, i, h, hq => by
    unfold LexAt at h
    subst h
    rw [List.zip_nil_left]
    exact PySem.W.kat_nil hq
  | _ :: _, [], q, i, h, hq => by
    unfold LexAt at h
    subst h
    rw [List.zip_nil_right]
    exact PySem.W.kat_nil hq
  | a :: as, b :: bs, [], i, h, hq => h.elim
  | a :: as, b :: bs, (e, l) :: q, i, h, hq => by
    obtain ⟨h1, h2, h3⟩ := h
    rw [List.zip_cons_cons]
    refine PySem.W.kat_cons (h1 prog w _ _ ?_)
    cases e with
    | true => exact PySem.W.kat_yes (katlex_of (h3 rfl) hq)
    | false =>
      refine PySem.W.kat_no ?_
      show wpAny _ _ (oneLt' false a b) _ _ _
      exact PySem.W.kat_one a b (h2 rfl prog w _ _ hq)
def Hd (t : Tr) : Prop := ∃ fs r, t = .tup (.tup fs :: r)
theorem TrsAt.map {H : Hp} {vs : List V} {ts : List Tr} (h : TrsAt H vs ts) : ∀ {is : List Nat}, (∀ i ∈ is, i < ts.length) → TrsAt H (is.map fun i => vs.getD i .non) (is.map fun i => ts.getD i .non)
  | [], _ => .nil
  | i :: is, hi => by
    have h0 : i < ts.length := hi i List.mem_cons_self
    have hl := h.len
    obtain ⟨v, e1, e2⟩ := h.get (i := i) (t := ts[i]) (List.getElem?_eq_getElem h0)
    have ev : vs.getD i .non = v := by rw [List.getD_eq_getElem?_getD, e1]; rfl
    have et : ts.getD i .non = ts[i] := by rw [List.getD_eq_getElem?_getD, List.getElem?_eq_getElem h0]; rfl
    rw [List.map_cons, List.map_cons, ev, et]
    exact .cons e2 (TrsAt.map h fun j m => hi j (List.mem_cons_of_mem _ m))
theorem Vals.map {vs : List V} {as : List Value} (h : Vals vs as) : ∀ {is : List Nat}, (∀ i ∈ is, i < vs.length) → Vals (is.map fun i => vs.getD i .non) (is.map fun i => as.getD i Value.none)
  | [], _ => .nil
  | i :: is, hi => by
    have h0 : i < vs.length := hi i List.mem_cons_self
    obtain ⟨u, e1, e2⟩ := h.get (i := i) (x := vs[i]) (List.getElem?_eq_getElem h0)
    have ev : vs.getD i .non = vs[i] := by rw [List.getD_eq_getElem?_getD, List.getElem?_eq_getElem h0]; rfl
    have et : as.getD i Value.none = u := by rw [List.getD_eq_getElem?_getD, e1]; rfl
    rw [List.map_cons, List.map_cons, ev, et]
    exact .cons e2 (Vals.map h fun j m => hi j (List.mem_cons_of_mem _ m))
section
variable {X : Cx} {pins : List (Addr × Obj)} {σ : L2.St} {H : Hp} {s : Shared}
theorem tup_obj (I : Inv X pins σ H s) {r : Addr} {vs : List V} (h : H r = some (.tup vs)) : ∃ (as : List Value) (o : Obj) (n : Nat), Vals vs as ∧ s.heap.get? r = some o ∧ o.cls = .type "tuple" ∧ o.data = .seq as.toArray n := by
  obtain ⟨as, q, p, _⟩ := I.tuple (SqT.of h)
  obtain ⟨o, ho, hc, n, hd⟩ := (show s.heap.IsTuple r as.toArray from p)
  exact ⟨as, o, n, q, ho, hc, hd⟩
theorem katTups_of (I : Inv X pins σ H s) : ∀ {vs : List V} {ts : List Tr} {as : List Value}, TrsAt H vs ts → Vals vs as → (∀ t ∈ ts, Hd t) → ∃ fs, PySem.W.KatTups s.heap as fs ∧ fs.length = as.length ∧ ∀ v ∈ fs, ∃ (r : Addr) (o : Obj), v = .ref r ∧ s.heap.get? r = some o ∧ o.cls = .type "tuple"
  | vs, [], as, h, r, _ => by
    unfold TrsAt at h
    subst h
    cases r
    exact ⟨[], PySem.W.KatTups.nil, rfl, fun v m => by cases m⟩
  | vs, t :: ts, as, h, r, hh => by
    obtain ⟨v, vr, rfl, h1, h2⟩ := h.inv
    cases r with
    | cons q1 q2 =>
      obtain ⟨fs, k1, k2, k3⟩ := katTups_of I h2 q2 fun t m => hh t (List.mem_cons_of_mem _ m)
      obtain ⟨gs, gr, rfl⟩ := hh t List.mem_cons_self
      unfold TrAt at h1
      obtain ⟨r0, vs0, rfl, g0, g1⟩ := h1
      cases q1
      obtain ⟨f, fr, rfl, h3, h4⟩ := g1.inv
      obtain ⟨as0, o, n, q3, ho, hc, hd⟩ := tup_obj I g0
      cases q3 with
      | cons q5 q6 =>
        unfold TrAt at h3
        obtain ⟨r1, vs1, rfl, g2, _⟩ := h3
        cases q5
        obtain ⟨_, o1, _, _, ho1, hc1, _⟩ := tup_obj I g2
        refine ⟨.ref r1 :: fs, PySem.W.KatTups.cons ho hc hd (by simp) k1, by simp [k2], fun v m => ?_⟩
        rcases List.mem_cons.mp m with rfl | m
        · exact ⟨r1, o1, rfl, ho1, hc1⟩
        · exact k3 v m
def rSorted : List V → Hp → VK → Prop := fun xs H Q => ∃ (l : Addr) (vs : List V) (ts : List Tr), xs = [.ref l] ∧ H l = some (.lst vs) ∧ TrsAt H vs ts ∧ ts.length < 64 ∧ (∀ t ∈ ts, Hd t ∧ t.pure ∧ t.depth ≤ 40) ∧ (∀ t ∈ ts, ∀ u ∈ ts, Cm t u) ∧
  ∀ (D : Addr) (ws : List V) (us : List Tr), H D = none → us.Perm ts → TrsAt H ws us → (∀ (i j : Nat) (t u : Tr), i ≤ j → us[i]? = some t → us[j]? = some u → ltT u t = false) → Q (.ref D) (upd H D (.lst ws))
theorem call_sorted (hu : X.A.units + 60 < cLine) : CallR X (.builtin "sorted") rSorted := by
  intro pins s σ H xs us Q I r h
  obtain ⟨l, vs, ts, rfl, hl, hT, hlen, hts, hcm, q⟩ := h
  obtain ⟨u, rfl, ru⟩ := vals1 r
  cases ru
  obtain ⟨as, rv, pl, _⟩ := I.list (SqL.of hl)
  have l1 := hT.len
  have l2 := rv.length
  have O : Srt.Ord fun i j => ltT (ts.getD i .non) (ts.getD j .non) := ⟨fun a b h => ltT_asym h, fun a b c h1 h2 => ltT_le h1 h2⟩
  have at_ : ∀ i, i < as.length → ∃ t v a, ts.getD i .non = t ∧ t ∈ ts ∧ TrAt H v t ∧ RelV v a ∧ as.getD i Value.none = a := fun i hi => by
    have hi' : i < ts.length := by omega
    obtain ⟨v, e1, e2⟩ := hT.get (i := i) (t := ts[i]) (List.getElem?_eq_getElem hi')
    obtain ⟨a, e3, e4⟩ := rv.get e1
    exact ⟨ts[i], v, a, by rw [List.getD_eq_getElem?_getD, List.getElem?_eq_getElem hi']; rfl, List.getElem_mem hi', e2, e4, by rw [List.getD_eq_getElem?_getD, e3]; rfl⟩
  refine sorted_any (κ := tuples' false) O pl.isList (by omega) (fun h2 h' kp E' R hR => ?_) (fun h' kp i j R hi hj hR => ?_) fun p hp hup => ?_
  · have I' : Inv X pins σ H { s with heap := h' } := I.kept (t' := s.toks) kp
    obtain ⟨fs, k1, k2, k3⟩ := katTups_of I' hT rv fun t m => (hts t m).1
    refine PySem.W.kat_kind (T := Value.type "tuple") k1 (by omega) (fun v m => ?_) (by decide +kernel) ?_
    · obtain ⟨r, o, rfl, ho, hc⟩ := k3 v m
      have : PySem.W.Looks (model X.prog X.w) h' (typeOf (.ref r)) o.cls := (PySem.W.Looks.ld ho).andThen .now
      rw [hc] at this
      exact this
    · rw [show (Value.type "tuple" != Value.type "tuple") = false by decide +kernel]
      exact hR
  · have I' : Inv X pins σ H { s with heap := h' } := I.kept (t' := s.toks) kp
    obtain ⟨t, v, a, et, mt, ht, ra, ea⟩ := at_ i hi
    obtain ⟨u, v', b, eu, mu, hu', rb, eb⟩ := at_ j hj
    have hc := hcm t mt u mu
    obtain ⟨⟨f1, r1, rfl⟩, p1, d1⟩ := hts t mt
    obtain ⟨⟨f2, r2, rfl⟩, p2, d2⟩ := hts u mu
    unfold TrAt at ht hu'
    obtain ⟨x0, vs0, rfl, g0, g1⟩ := ht
    obtain ⟨y0, ws0, rfl, g2, g3⟩ := hu'
    cases ra
    cases rb
    obtain ⟨as0, o, n, q3, ho, hcl, hd⟩ := tup_obj I' g0
    obtain ⟨bs0, o', n', q4, ho', hcl', hd'⟩ := tup_obj I' g2
    unfold Tr.depth at d1
    unfold Tr.pure at p1
    unfold Cm at hc
    have hu1 : X.A.in1.in1.units + 40 + 1 < cLine := by show X.A.units + 1 + 1 + 40 + 1 < cLine; omega
    have hx := lex_of (A := X.A.in1.in1) I' hu1 (fun d pp cc a1 a2 b1 b2 => tr_ltAt I' 40 d pp cc a1 a2 b1 b2 hu1) (by omega) (.inl p1) hc g1 g3 q3 q4
    unfold PySem.W.kas_ask
    rw [ea, eb]
    refine PySem.W.kat_lt (b := false) ho hd ho' hd' ?_
    rw [List.toList_toArray, List.toList_toArray]
    refine katlex_of hx ?_
    have e : lexV (decide (as0.toArray.size < bs0.toArray.size)) (qs (.tup f1 :: r1) (.tup f2 :: r2)) = ltT (ts.getD i .non) (ts.getD j .non) := by
      have z0 := g1.len
      have z1 := g3.len
      have z2 := q3.length
      have z3 := q4.length
      have e2 : decide (as0.toArray.size < bs0.toArray.size) = decide ((Tr.tup f1 :: r1).length < (Tr.tup f2 :: r2).length) := by
        rw [List.size_toArray, List.size_toArray, ← z2, ← z3, z0, z1]
      rw [e2, et, eu]
      refine bool_of_iff ?_
      rw [lexV_qs, ltT_iff]
      simp [code, LtC]
    rw [e]
    exact hR
  · have hin : ∀ i ∈ p.toList, i < ts.length := fun i m => by
      have := List.mem_range.mp (List.Perm.mem_iff hp |>.mp m)
      omega
    refine ⟨.ref (s.heap.objs.size + 1), upd H (s.heap.objs.size + 1) (.lst (p.toList.map fun i => vs.getD i .non)), I.laid (t' := s.toks) (fun b o e => sortedAll_old e) (Nat.le_succ _) ?_, rfl, ?_⟩
    · obtain ⟨e, he⟩ := sortedAll_at s.heap as (List.toArray (p.toList.map fun i => as.getD i Value.none))
      refine ⟨?_, p.toList.map fun i => as.getD i Value.none, e, Vals.map rv fun i m => by have := hin i m; omega, he⟩
      rw [List.length_map, Array.length_toList, hp.size]
      have : (64 : Nat) ≤ sizeLine := by decide +kernel
      omega
    · refine q _ _ (p.toList.map fun i => ts.getD i .non) (I.hok.fresh (Nat.le_succ _)) ?_ (TrsAt.map hT hin) fun i j t u hij e1 e2 => ?_
      · have := List.Perm.map (fun i => ts.getD i Tr.non) hp
        rw [show as.length = ts.length by omega, range_get] at this
        exact this
      · rw [List.getElem?_map] at e1 e2
        obtain ⟨a, ea, rfl⟩ := Option.map_eq_some_iff.mp e1
        obtain ⟨b, eb, rfl⟩ := Option.map_eq_some_iff.mp e2
        have hj : j < as.length := by
          have := (List.getElem?_eq_some_iff.mp eb).1
          rw [Array.length_toList, hp.size] at this
          exact this
        have := hup i j hij hj
        rw [g_some, g_some, ← Array.getElem?_toList, ← Array.getElem?_toList, ea, eb] at this
        exact this
end
end Tre
set_option Elab.async false
set_option linter.all false
set_option maxRecDepth 100000
set_option maxHeartbeats 1000000
namespace Tre
open PySem L2
inductive So where
  | tm | fr | pr | ws | lt
abbrev s_ (x : String) : Tr := .str (Str.ofString x)
inductive Ty : So → Tr → Prop
  | nm (x : Str) : Ty .tm (.tup [s_ "name", .str x])
  | ap (x : Str) (ts : List Tr) : ts.length ≤ 3 → (∀ t ∈ ts, Ty .tm t) → Ty .tm (.tup [s_ "call", .str x, .tup ts])
  | fr (a b : Int) : Ty .fr (.tup [.int a, .int b])
  | pr (t f : Tr) : Ty .tm t → Ty .fr f → Ty .pr (.tup [t, f])
  | fl (x : Str) : Ty .ws (.tup [s_ "flag", .str x])
  | mo (ps : List Tr) (f : Tr) : (∀ p ∈ ps, Ty .pr p) → Ty .fr f → Ty .ws (.tup [s_ "most", .tup ps, f])
  | li (t u : Tr) : Ty .tm t → Ty .tm u → Ty .ws (.tup [s_ "like", t, u])
  | no (w : Tr) : Ty .ws w → Ty .ws (.tup [s_ "not", w])
  | bo (l : List Tr) : (∀ w ∈ l, Ty .ws w) → Ty .ws (.tup [s_ "both", .tup l])
  | ei (l : List Tr) : (∀ w ∈ l, Ty .ws w) → Ty .ws (.tup [s_ "either", .tup l])
  | lt (w : Tr) (b : Bool) : Ty .ws w → Ty .lt (.tup [w, .bl b])
theorem cms_step {t u : Tr} {ts us : List Tr} (h1 : eqT t u = false → Cm t u) (h2 : Cms ts us) : Cms (t :: ts) (u :: us) := by
  unfold Cms
  cases e : eqT t u with
  | true => exact .inl ⟨rfl, h2⟩
  | false => exact .inr ⟨rfl, h1 e⟩
theorem cms_ne {t u : Tr} {ts us : List Tr} (h0 : eqT t u = false) (h1 : Cm t u) : Cms (t :: ts) (u :: us) := by
  unfold Cms
  exact .inr ⟨h0, h1⟩
theorem cms_nil {us : List Tr} : Cms [] us := by
  cases us <;> simp [Cms]
theorem cm_str (x y : Str) : Cm (.str x) (.str y) := by simp [Cm]
theorem cm_int (x y : Int) : Cm (.int x) (.int y) := by simp [Cm]
theorem cm_bl (x y : Bool) : Cm (.bl x) (.bl y) := by simp [Cm]
theorem cm_tup {ts us : List Tr} (h : Cms ts us) : Cm (.tup ts) (.tup us) := by
  unfold Cm
  exact h
theorem cms_all {ts us : List Tr} (h : ∀ t ∈ ts, ∀ u ∈ us, Cm t u) : Cms ts us := by
  induction ts generalizing us with
  | nil => exact cms_nil
  | cons t ts ih =>
    cases us with
    | nil => simp [Cms]
    | cons u us => exact cms_step (fun _ => h t List.mem_cons_self u List.mem_cons_self) (ih fun a ma b mb => h a (List.mem_cons_of_mem _ ma) b (List.mem_cons_of_mem _ mb))
theorem ty_cm : ∀ (n : Nat) {k : So} {t u : Tr}, t.depth ≤ n → Ty k t → Ty k u → Cm t u := by
  intro n
  induction n with
  | zero =>
    intro k t u hd h1 h2
    cases h1 <;> simp [Tr.depth] at hd
  | succ n ih =>
    intro k t u hd h1 h2
    have sub : ∀ {ts : List Tr} {t : Tr}, (Tr.tup ts).depth ≤ n + 1 → t ∈ ts → t.depth ≤ n := fun h m => by
      unfold Tr.depth at h
      have := depth_memT m
      omega
    have sub2 : ∀ {ts l : List Tr} {t : Tr}, (Tr.tup ts).depth ≤ n + 1 → Tr.tup l ∈ ts → t ∈ l → t.depth ≤ n := fun h m m2 => by
      have h3 := sub h m
      unfold Tr.depth at h3
      have := depth_memT m2
      omega
    cases h1 <;> cases h2 <;> refine cm_tup ?_
    all_goals first
      | exact cms_ne (by decide +kernel) (cm_str _ _)
      | skip
    · exact cms_step (fun _ => cm_str _ _) (cms_step (fun _ => cm_str _ _) cms_nil)
    · rename_i x ts _ h1 y us _ h2
      exact cms_step (fun _ => cm_str _ _) (cms_step (fun _ => cm_str _ _) (cms_step (fun _ => cm_tup (cms_all fun a ma b mb => ih (sub2 hd (by simp) ma) (h1 a ma) (h2 b mb))) cms_nil))
    · exact cms_step (fun _ => cm_int _ _) (cms_step (fun _ => cm_int _ _) cms_nil)
    · rename_i t1 f1 a1 b1 t2 f2 a2 b2
      exact cms_step (fun _ => ih (sub hd (by simp)) a1 a2) (cms_step (fun _ => ih (sub hd (by simp)) b1 b2) cms_nil)
    · exact cms_step (fun _ => cm_str _ _) (cms_step (fun _ => cm_str _ _) cms_nil)
    · rename_i p1 f1 a1 b1 p2 f2 a2 b2
      exact cms_step (fun _ => cm_str _ _) (cms_step (fun _ => cm_tup (cms_all fun a ma b mb => ih (sub2 hd (by simp) ma) (a1 a ma) (a2 b mb))) (cms_step (fun _ => ih (sub hd (by simp)) b1 b2) cms_nil))
    · rename_i t1 u1 a1 b1 t2 u2 a2 b2
      exact cms_step (fun _ => cm_str _ _) (cms_step (fun _ => ih (sub hd (by simp)) a1 a2) (cms_step (fun _ => ih (sub hd (by simp)) b1 b2) cms_nil))
    · rename_i w1 a1 w2 a2
      exact cms_step (fun _ => cm_str _ _) (cms_step (fun _ => ih (sub hd (by simp)) a1 a2) cms_nil)
    · rename_i l1 a1 l2 a2
      exact cms_step (fun _ => cm_str _ _) (cms_step (fun _ => cm_tup (cms_all fun a ma b mb => ih (sub2 hd (by simp) ma) (a1 a ma) (a2 b mb))) cms_nil)
    · rename_i l1 a1 l2 a2
      exact cms_step (fun _ => cm_str _ _) (cms_step (fun _ => cm_tup (cms_all fun a ma b mb => ih (sub2 hd (by simp) ma) (a1 a ma) (a2 b mb))) cms_nil)
    · rename_i w1 b1 a1 w2 b2 a2
      exact cms_step (fun _ => ih (sub hd (by simp)) a1 a2) (cms_step (fun _ => cm_bl _ _) cms_nil)
theorem pure_all {ts : List Tr} (h : ∀ t ∈ ts, t.pure) : Trs.pure ts := by
  induction ts with
  | nil => unfold Trs.pure; trivial
  | cons t ts ih =>
    unfold Trs.pure
    exact ⟨h t List.mem_cons_self, ih fun u m => h u (List.mem_cons_of_mem _ m)⟩
theorem ty_pure {k : So} {t : Tr} (h : Ty k t) : t.pure := by
  induction h with
  | nm x => simp [Tr.pure, Trs.pure]
  | ap x ts _ _ ih => simp only [Tr.pure, Trs.pure]; exact ⟨trivial, trivial, pure_all ih, trivial⟩
  | fr a b => simp [Tr.pure, Trs.pure]
  | pr t f _ _ h1 h2 => simp only [Tr.pure, Trs.pure]; exact ⟨h1, h2, trivial⟩
  | fl x => simp [Tr.pure, Trs.pure]
  | mo ps f _ _ h1 h2 => simp only [Tr.pure, Trs.pure]; exact ⟨trivial, pure_all h1, h2, trivial⟩
  | li t u _ _ h1 h2 => simp only [Tr.pure, Trs.pure]; exact ⟨trivial, h1, h2, trivial⟩
  | no w _ h1 => simp only [Tr.pure, Trs.pure]; exact ⟨trivial, h1, trivial⟩
  | bo l _ h1 => simp only [Tr.pure, Trs.pure]; exact ⟨trivial, pure_all h1, trivial⟩
  | ei l _ h1 => simp only [Tr.pure, Trs.pure]; exact ⟨trivial, pure_all h1, trivial⟩
  | lt w b _ h1 => simp only [Tr.pure, Trs.pure]; exact ⟨h1, trivial, trivial⟩
theorem ty_hd {t : Tr} (h : Ty .lt t ∨ Ty .pr t) : Hd t := by
  rcases h with h | h
  · cases h with
    | lt w b hw => cases hw <;> exact ⟨_, _, rfl⟩
  · cases h with
    | pr t f ht hf => cases ht <;> exact ⟨_, _, rfl⟩
end Tre
set_option linter.all false
namespace Mth
def dv (t b : Int) : Int := if b < 0 then -(Int.gcd t b : Int) else (Int.gcd t b : Int)
def fx (t b : Int) : Int := t.fdiv (dv t b)
def fy (t b : Int) : Int := b.fdiv (dv t b)
theorem dv_ne {t b : Int} (h : b ≠ 0) : dv t b ≠ 0 := by
  have : 0 < Int.gcd t b := Int.gcd_pos_of_ne_zero_right t h
  unfold dv
  split <;> omega
theorem dv_abs {t b : Int} : (dv t b).natAbs = Int.gcd t b := by
  unfold dv
  split <;> omega
theorem dv_dvd {t b : Int} : dv t b ∣ t ∧ dv t b ∣ b := by
  have h1 : ((Int.gcd t b : Nat) : Int) ∣ t := Int.gcd_dvd_left ..
  have h2 : ((Int.gcd t b : Nat) : Int) ∣ b := Int.gcd_dvd_right ..
  unfold dv
  split
  · exact ⟨Int.neg_dvd.mpr h1, Int.neg_dvd.mpr h2⟩
  · exact ⟨h1, h2⟩
theorem parts {t b : Int} (h : b ≠ 0) : t = dv t b * fx t b ∧ b = dv t b * fy t b := by
  obtain ⟨⟨x, hx⟩, ⟨y, hy⟩⟩ := dv_dvd (t := t) (b := b)
  have n := dv_ne (t := t) h
  have e1 : fx t b = x := by
    unfold fx
    generalize dv t b = d at *
    rw [hx]
    exact Int.mul_fdiv_cancel_left _ n
  have e2 : fy t b = y := by
    unfold fy
    generalize dv t b = d at *
    rw [hy]
    exact Int.mul_fdiv_cancel_left _ n
  rw [e1, e2]
  exact ⟨hx, hy⟩
theorem lowest {t b : Int} (h : b ≠ 0) : Int.gcd (fx t b) (fy t b) = 1 := by
  obtain ⟨e1, e2⟩ := parts (t := t) h
  have g : 0 < Int.gcd t b := Int.gcd_pos_of_ne_zero_right t h
  have e : Int.gcd t b = (dv t b).natAbs * Int.gcd (fx t b) (fy t b) := by
    have : Int.gcd t b = Int.gcd (dv t b * fx t b) (dv t b * fy t b) := by rw [← e1, ← e2]
    rw [this, Int.gcd_mul_left]
  rw [dv_abs] at e
  have := Nat.eq_of_mul_eq_mul_left g (show Int.gcd t b * 1 = Int.gcd t b * Int.gcd (fx t b) (fy t b) by rw [← e, Nat.mul_one])
  exact this.symm
end Mth
set_option linter.all false
namespace Mth
def Share (x y : Int) : Prop := 0 < y ∧ Int.gcd x y = 1
theorem cop_mul {x y z : Int} (h1 : Int.gcd x y = 1) (h2 : Int.gcd x z = 1) : Int.gcd x (y * z) = 1 := by
  show Nat.gcd x.natAbs (y * z).natAbs = 1
  rw [Int.natAbs_mul]
  exact Nat.Coprime.mul_right h1 h2
theorem cop_mul' {x y z : Int} (h1 : Int.gcd y x = 1) (h2 : Int.gcd z x = 1) : Int.gcd (y * z) x = 1 := by
  rw [Int.gcd_comm]
  exact cop_mul (by rw [Int.gcd_comm]; exact h1) (by rw [Int.gcd_comm]; exact h2)
theorem cop_left {x x' y : Int} (h : Int.gcd (x' * x) y = 1) : Int.gcd x' y = 1 := by
  have e : Nat.gcd (x' * x).natAbs y.natAbs = 1 := h
  rw [Int.natAbs_mul] at e
  exact Nat.Coprime.coprime_mul_right e
theorem cop_left' {x x' y : Int} (h : Int.gcd (x * x') y = 1) : Int.gcd x' y = 1 := by
  rw [Int.mul_comm] at h
  exact cop_left h
theorem cop_right {x y y' : Int} (h : Int.gcd x (y * y') = 1) : Int.gcd x y' = 1 := by
  rw [Int.gcd_comm] at h ⊢
  exact cop_left' h
theorem two_parts {x y : Int} (h : y ≠ 0) : ∃ x' y' : Int, x = (Int.gcd x y : Int) * x' ∧ y = (Int.gcd x y : Int) * y' ∧ Int.gcd x' y' = 1 ∧ x / (Int.gcd x y : Int) = x' ∧ y / (Int.gcd x y : Int) = y' := by
  have g : 0 < Int.gcd x y := Int.gcd_pos_of_ne_zero_right x h
  obtain ⟨x', hx⟩ : ((Int.gcd x y : Nat) : Int) ∣ x := Int.gcd_dvd_left ..
  obtain ⟨y', hy⟩ : ((Int.gcd x y : Nat) : Int) ∣ y := Int.gcd_dvd_right ..
  have n : ((Int.gcd x y : Nat) : Int) ≠ 0 := by omega
  refine ⟨x', y', hx, hy, ?_, ?_, ?_⟩
  · have e : Int.gcd x y = Int.gcd x y * Int.gcd x' y' := by
      have : Int.gcd x y = Int.gcd ((Int.gcd x y : Int) * x') ((Int.gcd x y : Int) * y') := by rw [← hx, ← hy]
      rw [Int.gcd_mul_left, Int.natAbs_natCast] at this
      exact this
    have := Nat.eq_of_mul_eq_mul_left g (show Int.gcd x y * 1 = Int.gcd x y * Int.gcd x' y' by rw [← e, Nat.mul_one])
    exact this.symm
  · generalize ((Int.gcd x y : Nat) : Int) = k at *
    rw [hx]
    exact Int.mul_ediv_cancel_left _ n
  · generalize ((Int.gcd x y : Nat) : Int) = k at *
    rw [hy]
    exact Int.mul_ediv_cancel_left _ n
theorem pos_of_mul {k x : Int} (hk : 0 ≤ k) (h : 0 < k * x) : 0 < x := by
  by_cases q : 0 < x
  · exact q
  · have := Int.mul_nonpos_of_nonneg_of_nonpos hk (show x ≤ 0 by omega)
    omega
def pT (a b c d : Int) : Int := a * (d / (Int.gcd b d : Int)) + c * (b / (Int.gcd b d : Int))
def pE (a b c d : Int) : Int := (Int.gcd (pT a b c d) (Int.gcd b d : Int) : Int)
def pX (a b c d : Int) : Int := pT a b c d / pE a b c d
def pY (a b c d : Int) : Int := b / (Int.gcd b d : Int) * (d / pE a b c d)
theorem plus_ok {a b c d : Int} (h1 : Share a b) (h2 : Share c d) : Share (pX a b c d) (pY a b c d) ∧ pX a b c d * (b * d) = (a * d + c * b) * pY a b c d := by
  obtain ⟨b0, g1⟩ := h1
  obtain ⟨d0, g2⟩ := h2
  obtain ⟨b', d', eb, ed, g3, qb, qd⟩ := two_parts (x := b) (y := d) (by omega)
  have s0 : (0 : Int) < (Int.gcd b d : Int) := by
    have : 0 < Int.gcd b d := Int.gcd_pos_of_ne_zero_right b (by omega)
    omega
  have eT : pT a b c d = a * d' + c * b' := by unfold pT; rw [qb, qd]
  unfold pX pY
  have eE : pE a b c d = (Int.gcd (a * d' + c * b') (Int.gcd b d : Int) : Int) := by unfold pE; rw [eT]
  rw [eE, eT, qb]
  generalize ((Int.gcd b d : Nat) : Int) = s at *
  obtain ⟨t', s', et, es, g4, qt, qs⟩ := two_parts (x := a * d' + c * b') (y := s) (by omega)
  have e0 : (0 : Int) < (Int.gcd (a * d' + c * b') s : Int) := by
    have : 0 < Int.gcd (a * d' + c * b') s := Int.gcd_pos_of_ne_zero_right _ (by omega)
    omega
  have b0' : 0 < b' := pos_of_mul (k := s) (by omega) (by omega)
  have d0' : 0 < d' := pos_of_mul (k := s) (by omega) (by omega)
  have cT1 : Int.gcd (a * d' + c * b') b' = 1 := by
    have : Int.gcd (a * d' + c * b') b' = Int.gcd (a * d') b' := by
      rw [Int.gcd_comm, Int.gcd_comm (a * d')]
      have e : a * d' + c * b' = a * d' + b' * c := by rw [Int.mul_comm c b']
      rw [e]
      exact Int.gcd_add_mul_left_right ..
    rw [this]
    refine cop_mul' ?_ (by rw [Int.gcd_comm]; exact g3)
    rw [eb] at g1
    exact cop_right g1
  have cT2 : Int.gcd (a * d' + c * b') d' = 1 := by
    have : Int.gcd (a * d' + c * b') d' = Int.gcd (c * b') d' := by
      rw [Int.gcd_comm, Int.gcd_comm (c * b')]
      have e : a * d' + c * b' = c * b' + d' * a := by rw [Int.mul_comm a d', Int.add_comm]
      rw [e]
      exact Int.gcd_add_mul_left_right ..
    rw [this]
    refine cop_mul' ?_ g3
    rw [ed] at g2
    exact cop_right g2
  rw [qt]
  generalize ((Int.gcd (a * d' + c * b') s : Nat) : Int) = e at *
  have s0' : 0 < s' := pos_of_mul (k := e) (by omega) (by omega)
  have qd2 : d / e = d' * s' := by
    rw [ed, es, Int.mul_assoc, Int.mul_ediv_cancel_left _ (by omega), Int.mul_comm]
  rw [qd2]
  generalize ht : a * d' + c * b' = t at *
  refine ⟨⟨Int.mul_pos b0' (Int.mul_pos d0' s0'), ?_⟩, ?_⟩
  · rw [et] at cT1 cT2
    exact cop_mul (cop_left' cT1) (cop_mul (cop_left' cT2) g4)
  · have e1 : a * d + c * b = s * t := by
      rw [ed, eb, ← ht, Int.mul_add]
      simp only [Int.mul_left_comm]
    rw [e1, et, eb, ed]
    have e2 : s * (e * t') * (b' * (d' * s')) = s * t' * b' * d' * (e * s') := by
      simp only [Int.mul_assoc, Int.mul_left_comm, Int.mul_comm]
    rw [e2, ← es]
    simp only [Int.mul_assoc, Int.mul_left_comm, Int.mul_comm]
end Mth
set_option Elab.async false
set_option linter.all false
set_option maxRecDepth 100000
set_option maxHeartbeats 1000000
namespace L2
section
open PySem
variable {prog : Program} {w : World} {A : Around} {R : Result → Shared → Prop} {s : Shared}
theorem comp_turns {elt target iter : Expr} {ifs : List Expr} {scope : Scope} {pos : Pos} {it acc : Value} {env : Env} (I : Nat → Shared → Prop)
    (turn : ∀ n s, I n s → wpAny (model prog w) A (pyNext it) (fun r s₁ => match r with
      | none => R (.ok .next) s₁
      | some v => wpAny (model prog w) A (letOwnedTupleGo target it v) (fun _ s₁' => wpAny (model prog w) A (assign target env v) (fun _ s₂ =>
          wpAny (model prog w) A (forIn ifs true fun c r => if r = true then do let ok ← isTrue c env (eval c env); pure (ForInStep.yield ok) else pure (ForInStep.yield r)) (fun ok s₃ =>
            if ok = true then wpAny (model prog w) A (eval elt env) (fun x s₄ =>
              wpAny (model prog w) A (call (.builtin "list.append") [acc, x]) (fun _ s₅ => ∃ m, m < n ∧ I m s₅) (fun _ _ => False) s₄) (fun _ _ => False) s₃
            else ∃ m, m < n ∧ I m s₃) (fun _ _ => False) s₂) (fun _ _ => False) s₁') (fun _ _ => False) s₁) (fun _ _ => False) s)
    (n : Nat) (h : I n s) : codeAny (model prog w) A (.compLoop (.ListComp elt [⟨target, iter, ifs, 0⟩] scope pos) 0 it acc env) R s := by
  refine codeAny_loop rfl I (fun n s hI => ?_) n h
  show wpAny _ A ((compTurn (.ListComp elt [⟨target, iter, ifs, 0⟩] scope pos) 0 it acc env).onRaise (fun x => do noteFrame x env; theTreesLotGoes x)) _ _ s
  refine wpAny_noted ?_
  rw [compTurn_list]
  refine wpAny_bind (wpAny_standAt (wpAny_bind (wpAny_mono (turn n s hI) (fun r s₁ h₁ => ?_) fun _ _ z => z.elim)))
  cases r with
  | none => exact wpAny_pure h₁
  | some v =>
    refine wpAny_bind (wpAny_mono h₁ (fun _ s₁' h₁' => ?_) fun _ _ z => z.elim)
    refine wpAny_bind (wpAny_mono h₁' (fun _ s₂ h₂ => wpAny_bind (wpAny_mono h₂ (fun ok s₃ h₃ => ?_) fun _ _ z => z.elim)) fun _ _ z => z.elim)
    cases ok with
    | false => exact wpAny_pure ⟨rfl, h₃⟩
    | true =>
      exact wpAny_bind (wpAny_bind (wpAny_mono h₃ (fun x s₄ h₄ => wpAny_bind (wpAny_mono h₄ (fun _ s₅ h₅ => wpAny_pure (wpAny_pure ⟨rfl, h₅⟩)) fun _ _ z => z.elim)) fun _ _ z => z.elim))
def closOf (names : List (Str × NameKind)) (cells : List (Str × Addr)) : List (Str × Addr) → List (Str × Addr) := match names with
  | [] => fun cs => cs
  | (n, k) :: r => fun cs => closOf r cells (if (k == .free) = true then (n, (cells.lookup n).getD 0) :: cs else cs)
def hasCells (names : List (Str × NameKind)) (cells : List (Str × Addr)) : Bool := names.all fun y => !(y.2 == .free) || (cells.lookup y.1).isSome
theorem clos_go (env : Env) : ∀ (names : List (Str × NameKind)) (cs : List (Str × Addr)), hasCells names env.cells = true →
    (forIn names cs fun (x : Str × NameKind) (r : List (Str × Addr)) => match x with
      | (name, kind) => if (kind == NameKind.free) = true then do let __do_lift ← cellOf env name; pure (ForInStep.yield ((name, __do_lift) :: r)) else pure (ForInStep.yield r) : Sem (List (Str × Addr))) = pure (closOf names env.cells cs)
  | [], cs, _ => rfl
  | (n, k) :: r, cs, h => by
    unfold hasCells at h
    rw [List.all_cons, Bool.and_eq_true] at h
    rw [List.forIn_cons]
    unfold closOf
    by_cases hk : (k == NameKind.free) = true
    · rw [if_pos hk]
      dsimp only
      rw [if_pos hk]
      have h1 : (env.cells.lookup n).isSome = true := by
        have := h.1
        rw [hk] at this
        simpa using this
      obtain ⟨c, hc⟩ := Option.isSome_iff_exists.mp h1
      have e : cellOf env n = pure c := by unfold cellOf; rw [hc]
      rw [e, hc]
      exact clos_go env r _ h.2
    · rw [if_neg hk]
      dsimp only
      rw [if_neg hk]
      exact clos_go env r _ h.2
theorem clos_eq {scope : Scope} {env : Env} (h : hasCells scope.names env.cells = true) : closureFor scope env = pure (closOf scope.names env.cells []) := by
  unfold closureFor
  have := clos_go env scope.names [] h
  simp only [bind_pure]
  exact this
theorem clos_sub {cells : List (Str × Addr)} : ∀ (names : List (Str × NameKind)) (cs : List (Str × Addr)), hasCells names cells = true → (∀ y c, cs.lookup y = some c → cells.lookup y = some c) → ∀ y c, (closOf names cells cs).lookup y = some c → cells.lookup y = some c
  | [], cs, _, hc, y, c, e => hc y c e
  | (n, k) :: r, cs, h, hc, y, c, e => by
    unfold hasCells at h
    rw [List.all_cons, Bool.and_eq_true] at h
    refine clos_sub r _ h.2 (fun z d q => ?_) y c e
    by_cases hk : (k == NameKind.free) = true
    · rw [if_pos hk, List.lookup_cons] at q
      cases zn : (z == n) with
      | true =>
        rw [zn] at q
        have h1 : (cells.lookup n).isSome = true := by
          have := h.1
          rw [hk] at this
          simpa using this
        obtain ⟨c', hc'⟩ := Option.isSome_iff_exists.mp h1
        have zn' : z = n := by simpa using zn
        rw [zn', hc']
        have q' : some ((cells.lookup n).getD 0) = some d := q
        rw [hc'] at q'
        exact q'
      | false =>
        rw [zn] at q
        exact hc z d q
    · rw [if_neg hk] at q
      exact hc z d q
theorem clos_keep {cells : List (Str × Addr)} : ∀ (names : List (Str × NameKind)) (cs : List (Str × Addr)) (y : Str), (∃ c, cs.lookup y = some c) → ∃ c, (closOf names cells cs).lookup y = some c
  | [], cs, y, h => h
  | (n, k) :: r, cs, y, h => by
    refine clos_keep r _ y ?_
    by_cases hk : (k == NameKind.free) = true
    · rw [if_pos hk, List.lookup_cons]
      cases zn : (y == n) with
      | true => exact ⟨_, rfl⟩
      | false => exact h
    · rw [if_neg hk]
      exact h
theorem clos_has {cells : List (Str × Addr)} : ∀ (names : List (Str × NameKind)) (cs : List (Str × Addr)) (y : Str), (y, NameKind.free) ∈ names → ∃ c, (closOf names cells cs).lookup y = some c
  | [], _, y, h => by cases h
  | (n, k) :: r, cs, y, h => by
    rcases List.mem_cons.mp h with e | h
    · obtain ⟨e1, e2⟩ := Prod.mk.inj e
      subst e1
      subst e2
      unfold closOf
      refine clos_keep r _ y ?_
      rw [if_pos (show (NameKind.free == NameKind.free) = true from rfl), List.lookup_cons]
      have : (y == y) = true := by simp
      rw [this]
      exact ⟨_, rfl⟩
    · exact clos_has r _ y h
end
open PySem PySem.Spec PyProof.Rows
abbrev XC (X : Cx) (scope : Scope) (NC : List Str) (C : Addr) (s : Shared) (H : Hp) (fp : List Addr) (pn : List (Addr × Obj)) : Cx :=
  { X with N := NC, s₀ := s, H₀ := H, env := compEnvC scope (closOf scope.names X.env.cells []) C X.env, outer := X.stack, stack := X.stack, ex := fp, fn := fun _ => false, pn := pn, xe := fun _ _ => False }
def subS (mp : List (Option Nat)) (σ : St) : St := mp.map fun o => match o with
  | some i => (σ[i]?).getD none
  | none => none
def okMap (N NC : List Str) (mp : List (Option Nat)) (names outer : List (Str × NameKind)) : Bool := (List.range mp.length).all fun j => match mp[j]? with
  | some (some i) => (match NC[j]?, N[i]? with
    | some y, some z => y == z && names.lookup y == some NameKind.free && (outer.lookup y == some NameKind.cell || outer.lookup y == some NameKind.free)
    | _, _ => false)
  | _ => true
theorem okMap_at {N NC : List Str} {mp : List (Option Nat)} {names outer : List (Str × NameKind)} (h : okMap N NC mp names outer = true) {j i : Nat} (e : mp[j]? = some (some i)) : ∃ y, NC[j]? = some y ∧ N[i]? = some y ∧ names.lookup y = some .free ∧ (outer.lookup y = some .cell ∨ outer.lookup y = some .free) := by
  unfold okMap at h
  rw [List.all_eq_true] at h
  have hj : j < mp.length := (List.getElem?_eq_some_iff.mp e).1
  have := h j (List.mem_range.mpr hj)
  rw [e] at this
  dsimp only at this
  split at this
  · rename_i y z e1 e2
    simp only [Bool.and_eq_true, Bool.or_eq_true, beq_iff_eq] at this
    obtain ⟨⟨rfl, h2⟩, h3⟩ := this
    exact ⟨y, e1, e2, h2, h3⟩
  · cases this
def PTs (X : Cx) (ifs : List Expr) (t : TT) : Prop :=
  ∀ (pins : List (Addr × Obj)) (s : Shared) (σ : St) (H : Hp) (Q : Bool → Hp → Prop), Inv X pins σ H s → t σ H Q →
    wpAny (model X.prog X.w) X.A (forIn ifs true fun c r => if r = true then do let ok ← isTrue c X.env (eval c X.env); pure (ForInStep.yield ok) else pure (ForInStep.yield r)) (TP X pins σ Q) X.xe s
def tNoTest : TT := fun _ H Q => Q true H
theorem pts_nil {X : Cx} : PTs X [] tNoTest := fun _ _ σ H Q I h => wpAny_tests_nil ⟨H, I, h⟩
def Ext (σ σ' : St) : Prop := ∀ (j : Nat) (v : V), σ[j]? = some (some v) → σ'[j]? = some (some v)
theorem Ext.refl (σ : St) : Ext σ σ := fun _ _ e => e
theorem ext1 {o : Option V} {r : St} : Ext (none :: r) (o :: r)
  | 0, v, e => by cases (Option.some.inj (show some (none : Option V) = some (some v) from e))
  | j + 1, v, e => e
def tComp (mp : List (Option Nat)) (wi : TI) (g : TG) (tc : TT) (te : TE) : TE := fun σ H Q => wi σ H fun J H1 => ∀ D, H1 D = none →
  ∃ W : Nat → Nat → List V → Hp → Prop, (∃ m, W 0 m [] (upd H1 D (.lst []))) ∧ ∀ i m acc H2, W i m acc H2 →
    (J.stop i H2 ∧ Q (.ref D) H2) ∨
    (J.go i H2 ∧ ∀ x H3, J.yld i H2 x H3 → g x (subS mp σ) H3 fun σ4 H4 => Ext (subS mp σ) σ4 ∧ tc σ4 H4 fun b H5 => if b = true then te σ4 H5 fun v H6 => H6 D = some (.lst acc) ∧ acc.length < sizeLine ∧ ∃ m', m' < m ∧ W (i + 1) m' (acc ++ [v]) (upd H6 D (.lst (acc ++ [v])))
      else ∃ m', m' < m ∧ W (i + 1) m' acc H5)
end L2
set_option Elab.async false
set_option linter.all false
set_option maxRecDepth 100000
set_option maxHeartbeats 1000000
namespace L2
open PySem PySem.Spec PyProof.Rows
theorem lookup_relabel_free {env : Env} : ∀ {names : List (Str × NameKind)} {x : Str}, names.lookup x = some .free →
    (names.map fun (n, k) => if (k == NameKind.free && env.scope.kind == .function && env.kindOf n == some .cell) then (n, NameKind.cell) else (n, k)).lookup x = some .cell ∨
    (names.map fun (n, k) => if (k == NameKind.free && env.scope.kind == .function && env.kindOf n == some .cell) then (n, NameKind.cell) else (n, k)).lookup x = some .free
  | [], _, h => by simp at h
  | (n, k) :: r, x, h => by
    have ih := @lookup_relabel_free env r x
    show List.lookup x ((if (k == NameKind.free && env.scope.kind == .function && env.kindOf n == some .cell) = true then (n, NameKind.cell) else (n, k)) :: _) = _ ∨ List.lookup x ((if (k == NameKind.free && env.scope.kind == .function && env.kindOf n == some .cell) = true then (n, NameKind.cell) else (n, k)) :: _) = _
    cases hx : x == n with
    | true =>
      simp only [List.lookup_cons, hx] at h
      cases h
      by_cases hc : (NameKind.free == NameKind.free && env.scope.kind == .function && env.kindOf n == some .cell) = true
      · rw [if_pos hc]
        left
        simp only [List.lookup_cons, hx]
      · rw [if_neg hc]
        right
        simp only [List.lookup_cons, hx]
    | false =>
      simp only [List.lookup_cons, hx] at h
      by_cases hc : (k == NameKind.free && env.scope.kind == .function && env.kindOf n == some .cell) = true
      · rw [if_pos hc]
        simp only [List.lookup_cons, hx]
        exact ih h
      · rw [if_neg hc]
        simp only [List.lookup_cons, hx]
        exact ih h
theorem relabel_mem {env : Env} : ∀ {names : List (Str × NameKind)} {x : Str}, (∀ y ∈ names, y.2 ≠ .cell) →
    ((names.map fun (n, k) => if (k == NameKind.free && env.scope.kind == .function && env.kindOf n == some .cell) then (n, NameKind.cell) else (n, k)).lookup x = some .cell ∨
    (names.map fun (n, k) => if (k == NameKind.free && env.scope.kind == .function && env.kindOf n == some .cell) then (n, NameKind.cell) else (n, k)).lookup x = some .free) → (x, NameKind.free) ∈ names
  | [], _, _, h => by simp at h
  | (n, k) :: r, x, hn, h => by
    have ih := @relabel_mem env r x (fun y hy => hn y (List.mem_cons_of_mem _ hy))
    have nk : k ≠ .cell := hn (n, k) List.mem_cons_self
    rw [List.map_cons] at h
    dsimp only at h
    cases hx : x == n with
    | true =>
      have xn : x = n := by simpa using hx
      subst xn
      by_cases hc : (k == NameKind.free && env.scope.kind == .function && env.kindOf x == some .cell) = true
      · have : k = .free := by
          have := hc
          rw [Bool.and_eq_true, Bool.and_eq_true] at this
          simpa using this.1.1
        rw [this]
        exact List.mem_cons_self
      · rw [if_neg hc, List.lookup_cons, hx] at h
        rcases h with h | h
        · exact absurd (Option.some.inj h) nk
        · cases (Option.some.inj h)
          exact List.mem_cons_self
    | false =>
      refine List.mem_cons_of_mem _ (ih ?_)
      by_cases hc : (k == NameKind.free && env.scope.kind == .function && env.kindOf n == some .cell) = true
      · rw [if_pos hc, List.lookup_cons, hx] at h
        exact h
      · rw [if_neg hc, List.lookup_cons, hx] at h
        exact h
section
variable {X : Cx} {pins : List (Addr × Obj)} {σ : St} {H : Hp} {s : Shared}
theorem Inv.block {scope : Scope} {NC : List Str} {mp : List (Option Nat)} {fp : List Addr} {h1 : Heap} {tk : Nat} {m : Str → Option Value} (I : Inv X pins σ H s) (hf : ∀ b ∈ fp, FpOk X pins H b) (hlt : ∀ b ∈ fp, b < s.heap.objs.size) (hk : scope.kind = .function) (hnc : ∀ y ∈ scope.names, y.2 ≠ .cell)
    (hc : hasCells scope.names X.env.cells = true) (hl : mp.length = NC.length) (hm : okMap X.N NC mp scope.names X.env.scope.names = true) (kp : ∀ b o, s.heap.get? b = some o → h1.get? b = some o) (hn : h1.Ns s.heap.objs.size m) :
    Inv (XC X scope NC s.heap.objs.size s H fp (X.pn ++ pins)) [] (subS mp σ) H { s with heap := h1, toks := tk } := by
  have sub := clos_sub (cells := X.env.cells) scope.names [] hc (fun y c e => by cases e)
  have lt : ∀ b o, s.heap.get? b = some o → b ≠ s.heap.objs.size := fun b o e => Nat.ne_of_lt (Heap.lt_size e)
  have nst : ∀ b, b ≠ X.env.locals → b ∉ X.fs → b ∉ frs X.stack := fun b h1 h2 z => by
    rcases List.mem_cons.mp (I.stkSub b z) with e | e
    · exact h1 e
    · exact h2 e
  refine ⟨⟨I.ok.mod, hk, I.ok.glob, I.ok.blt, Nat.le_refl _, fun x y c e1 e2 => I.ok.inj x y c (sub x c e1) (sub y c e2), fun x hx => ?_, (fun _ _ z => by cases z), I.ok.hd, I.ok.frames, .inl rfl, fun b hb => ?_, fun b o e => ?_, Nat.le_trans I.ok.bsz I.sz, fun b o e hb => ?_, fun b hb => ?_, I.stack, I.stkFree⟩,
    rfl, I.bare, Un.kept kp, ⟨m, hn, fun j y v e1 e2 e3 => ?_⟩, fun y c e => ?_, I.hok.fresh (Nat.le_refl _), fun y c e => I.freeC y c (sub y c e), fun p hp => ?_, I.hok.kept kp, ?_⟩
  · exact clos_has scope.names [] x (relabel_mem hnc hx)
  · obtain ⟨f0, f1, f2, f3, f4, f5⟩ := hf b hb
    exact ⟨Nat.ne_of_lt (hlt b hb), fun x c e => f4 x c (sub x c e)⟩
  · obtain ⟨h1, h2⟩ := I.bs b o e
    exact ⟨h1, h2⟩
  · obtain ⟨f0, f1, f2, f3, f4, f5⟩ := hf b hb
    rcases f3 with z | z
    · exact I.ok.noex b o e z
    · exact absurd (Nat.lt_of_lt_of_le (Heap.lt_size e) (Nat.le_trans I.ok.bsz z)) (Nat.lt_irrefl _)
  · obtain ⟨f0, f1, f2, f3, f4, f5⟩ := hf b hb
    exact nst b f1 f2
  · -- a captured name
    unfold subS at e2
    rw [List.getElem?_map] at e2
    cases q : mp[j]? with
    | none => rw [q] at e2; cases e2
    | some o =>
      rw [q] at e2
      cases o with
      | none => cases e2
      | some i =>
        have e2' : some ((σ[i]?).getD none) = some (some v) := e2
        obtain ⟨z, y1, y2, y3, y4⟩ := okMap_at hm q
        have yz : y = z := Option.some.inj ((show NC[j]? = some y from e1).symm.trans y1)
        subst yz
        have e4 : σ[i]? = some (some v) := by
          cases w : σ[i]? with
          | none => rw [w] at e2'; cases e2'
          | some t => rw [w] at e2'; exact e2'
        obtain ⟨m0, hn0, hl0⟩ := I.loc
        obtain ⟨c, hcl⟩ := clos_has (cells := X.env.cells) scope.names [] y (PySem.mem_of_lookup y3)
        have hcx := sub y c hcl
        have vis : Vis X.env.scope y := .inr y4
        obtain ⟨u, ru, lk⟩ := hl0 i y v y2 e4 vis
        refine ⟨u, ru, .inr ⟨lookup_relabel_free y3, c, hcl, ?_⟩⟩
        rcases lk with ⟨k1, _⟩ | ⟨_, c', k2, k3⟩
        · have k1' : X.env.scope.names.lookup y = some .local := k1
          rcases y4 with y4 | y4 <;> (rw [y4] at k1'; cases k1')
        · rw [hcx] at k2
          cases k2
          obtain ⟨oc, q1, q2⟩ := k3
          exact ⟨oc, kp _ _ q1, q2⟩
  · obtain ⟨v, oc, q1, q2⟩ := I.cell y c (sub y c e)
    exact ⟨v, oc, kp _ _ q1, q2⟩
  · have hp' : p ∈ X.pn ++ pins := by simpa using hp
    obtain ⟨q1, q2, q3, q4, q5⟩ := I.pin p hp'
    exact ⟨kp _ _ q1, q2, lt _ _ q1, nst _ q3 q4, q5⟩
  · show (subS mp σ).length = NC.length
    unfold subS
    rw [List.length_map, hl]

variable {elt target iter : Expr} {ifs : List Expr} {scope : Scope} {NC : List Str} {mp : List (Option Nat)} {pos : Pos} {wi : TI} {g : TG} {tc : TT} {te : TE}
theorem pe_comp (hcalm : X.calm = true) (hi : PI X target iter wi) (hg : ∀ C s H fp pn, PG (XC X scope NC C s H fp pn) target g) (ht : ∀ C s H fp pn, PTs (XC X scope NC C s H fp pn) ifs tc) (he : ∀ C s H fp pn, PE (XC X scope NC C s H fp pn) elt te)
    (hl : mp.length = NC.length := by rfl) (hm : okMap X.N NC mp scope.names X.env.scope.names = true := by rfl) (hc : hasCells scope.names X.env.cells = true := by rfl) (hk : scope.kind = .function := by rfl)
    (hnc : ∀ y ∈ scope.names, y.2 ≠ .cell := by decide +kernel) (hnm : ∀ y ∈ scope.names, y.2 = .local → scope.names.lookup y.1 = some .local := by decide +kernel) (hs : ∀ x, foldedSetIterable iter X.env x = pure x := by intro _; rfl) :
    PE X (.ListComp elt [⟨target, iter, ifs, 0⟩] scope pos) (tComp mp wi g tc te) := by
  intro pins s σ H Q I h
  rw [eval_ListComp]
  refine wpAny_comprehension_free (use := none) rfl hs (clos_eq hc) hk hnm (thn (hi pins s σ H _ I h) fun v s1 h1 => thn h1 fun itv s2 h2 => ?_)
  obtain ⟨it, fp, tn, J, H2, e, I2, T, st2, f2, W⟩ := h2
  subst e
  refine wpAny_newObj_type ?_ (by show 0 ≤ sizeLine; decide)
  have nD : H2 s2.heap.objs.size = none := I2.hok.fresh (Nat.le_refl _)
  have I3 : Inv X pins σ (upd H2 s2.heap.objs.size (.lst [])) { s2 with heap := s2.heap.push { cls := .type "list", data := .seq ([] : List Value).toArray } } :=
    I2.laid (t' := s2.toks) (fun b u e => Heap.get?_push_of_some _ e) (Nat.le_refl _) ⟨by show 0 ≤ sizeLine; decide, [], 0, .nil, Heap.get?_push_size _ rfl⟩
  obtain ⟨W, ⟨m0, w0⟩, turn⟩ := W _ nD
  have lt2 : ∀ b ∈ fp, b < s2.heap.objs.size := fun b hb => by
    obtain ⟨o, e, _⟩ := T.obj 0 _ st2 b hb
    exact Heap.lt_size e
  have nDf : ∀ b ∈ fp, b ≠ s2.heap.objs.size := fun b hb => Nat.ne_of_lt (lt2 b hb)
  have f3 : ∀ b ∈ fp, FpOk X pins (upd H2 s2.heap.objs.size (.lst [])) b := fun b hb => by
    obtain ⟨g0, g1⟩ := f2 b hb
    exact ⟨by rw [upd_ne (nDf b hb)]; exact g0, g1⟩
  have st3 : tn 0 (s2.heap.push { cls := .type "list", data := .seq ([] : List Value).toArray }) := T.keep 0 _ _ st2 fun b _ o e => Heap.get?_push_of_some _ e
  have lt3 : ∀ b ∈ fp, b < (s2.heap.push { cls := .type "list", data := .seq ([] : List Value).toArray }).objs.size := fun b hb => by
    rw [Heap.size_push]
    exact Nat.lt_succ_of_lt (lt2 b hb)
  generalize hD : s2.heap.objs.size = D at *
  generalize hs3 : ({ s2 with heap := s2.heap.push { cls := .type "list", data := .seq ([] : List Value).toArray } } : Shared) = s3 at *
  have hh3 : s3.heap = s2.heap.push { cls := .type "list", data := .seq ([] : List Value).toArray } := by rw [← hs3]
  rw [← hh3] at st3 lt3
  generalize hH3 : upd H2 D (.lst []) = H3 at *
  refine wpAny_newFunctionEnv (around := some X.env) hnc (by intro y hy; cases hy) (fun h4 hn4 hsb4 => ?_) hk
  have kp4 : ∀ b o, s3.heap.get? b = some o → h4.get? b = some o := fun b o e => hsb4.extBut b o (Nat.ne_of_lt (Heap.lt_size e)) (Heap.get?_push_of_some _ e)
  have I4 := I3.block (tk := s3.toks + ([] : List (Str × Value)).length) f3 lt3 hk hnc hc hl hm kp4 hn4
  have st4 : tn 0 h4 := T.keep 0 _ _ st3 fun b _ o e => kp4 b o e
  have fin : ∀ (s5 : Shared) (σ5 : St) (H5 : Hp), Inv (XC X scope NC s3.heap.objs.size s3 H3 fp (X.pn ++ pins)) [] σ5 H5 s5 → Q (.ref D) H5 → compPost (model X.prog X.w) X.A X.xe none (EP X pins σ Q) (.ref D) s3.heap.objs.size (.ok .next) s5 := by
    intro s5 σ5 H5 I5 q5
    obtain ⟨m5, hn5, _⟩ := id I5.loc
    refine ⟨m5, hn5, fun h6 sb6 => ⟨.ref D, H5, ?_, rfl, q5⟩⟩
    have kp6 : ∀ b o, b ≠ s3.heap.objs.size → s5.heap.get? b = some o → h6.get? b = some o := fun b o hb e => sb6.extBut b o hb e
    have nC : ∀ b o, s3.heap.get? b = some o → b ≠ s3.heap.objs.size := fun b o e => Nat.ne_of_lt (Heap.lt_size e)
    have un : Un (frs X.stack) fp H3 H5 s3.heap s5.heap := I5.base
    have hfree : H5 s3.heap.objs.size = none := I5.free
    refine I3.call' (s' := { s5 with heap := h6 }) (ch := fp) I5.os ⟨fun b o e n hb hx => kp6 b o (nC b o e) (un.keep b o e n hb hx), fun b o e n hb hx => ?_, un.free, fun b o e hx => ?_, un.tups, un.frzs, un.tbls⟩ ?_ I5.bare (fun b hb => ?_)
    · obtain ⟨sl, e1⟩ := un.slot b o e n hb hx
      exact ⟨sl, kp6 b _ (nC b o e) e1⟩
    · obtain ⟨o', e1⟩ := un.there b o e hx
      exact ⟨o', kp6 b o' (nC b o e) e1⟩
    · intro b o e
      have nb : b ≠ s3.heap.objs.size := fun z => by rw [z, hfree] at e; cases e
      refine (I5.hok b o e).stay (fun c v hc' r => kp6 c v ?_ r) (fun _ r => r) fun _ _ r => r
      rcases hc' with z | z
      · rw [z]; exact nb
      · intro y
        rw [y, hfree] at z
        cases z
    · obtain ⟨g0, g1, g2, g3, g4, g5⟩ := f3 b hb
      exact ⟨g3, g1, g4, g5⟩
  have loop : codeAny (model X.prog X.w) X.A (.compLoop (.ListComp elt [⟨target, iter, ifs, 0⟩] scope pos) 0 (.ref it) (.ref D) (compEnvC scope (closOf scope.names X.env.cells []) s3.heap.objs.size X.env)) (compPost (model X.prog X.w) X.A X.xe none (EP X pins σ Q) (.ref D) s3.heap.objs.size)
      { s3 with heap := h4, toks := s3.toks + ([] : List (Str × Value)).length } := by
    refine comp_turns (fun n s' => ∃ i acc σ' H', Inv (XC X scope NC s3.heap.objs.size s3 H3 fp (X.pn ++ pins)) [] σ' H' s' ∧ Ext (subS mp σ) σ' ∧ tn i s'.heap ∧ (∀ b ∈ fp, H' b = none) ∧ W i n acc H') ?_ m0
      ⟨0, [], subS mp σ, H3, I4, fun _ _ e => e, st4, fun b hb => (f3 b hb).1, w0⟩
    rintro n s5 ⟨i, acc, σ5, H5, I5, hσ, st5, fr5, w5⟩
    have I5' : Inv (XC X scope NC s3.heap.objs.size s3 H3 fp (X.pn ++ pins)) [] (subS mp σ) H5 s5 := I5.weak (by rw [I5.len]; unfold subS; rw [List.length_map]; exact hl) hσ
    have fpk : ∀ {H' : Hp}, (∀ b ∈ fp, H' b = none) → ∀ b ∈ fp, FpOk (XC X scope NC s3.heap.objs.size s3 H3 fp (X.pn ++ pins)) [] H' b := fun hn b hb => by
      obtain ⟨g0, g1, g2, g3, g4, g5⟩ := f3 b hb
      refine ⟨hn b hb, Nat.ne_of_lt (lt3 b hb), ?_, .inl hb, (I4.ok.exf b hb).2, fun p hp => g5 p (by simpa using hp)⟩
      exact I4.ok.exfs b hb
    rcases turn i n acc H5 w5 with ⟨stop, q⟩ | ⟨go, step⟩
    · refine thn (T.done (XC X scope NC s3.heap.objs.size s3 H3 fp (X.pn ++ pins)) rfl rfl rfl hcalm i [] s5 _ H5 (fun _ _ => False) I5' (fpk fr5) st5 stop) fun r s6 ⟨hr, I6⟩ => ?_
      subst hr
      exact fin s6 _ H5 I6 q
    · refine thn (T.item (XC X scope NC s3.heap.objs.size s3 H3 fp (X.pn ++ pins)) rfl rfl rfl hcalm i [] s5 _ H5 (fun _ _ => False) I5' (fpk fr5) st5 go) fun r s6 ⟨u, hr, h6⟩ => ?_
      subst hr
      refine thn h6 fun _ s7 ⟨x, H7, I7, r7, y7, st7, fr7⟩ => ?_
      have I7' := I7.pinned (fpk fr7) (T.obj _ _ st7)
      refine thn (hg _ _ _ _ _ _ s7 _ H7 x u _ I7' r7 (step x H7 y7)) fun _ s8 ⟨σ8, H8, I8, ext8, q8⟩ => ?_
      refine thn (ht _ _ _ _ _ _ s8 σ8 H8 _ I8 q8) fun ok s9 ⟨H9, I9, q9⟩ => ?_
      have again : ∀ {σ' : St} {H' : Hp} {s' : Shared} {acc' : List V} {m' : Nat}, Inv (XC X scope NC s3.heap.objs.size s3 H3 fp (X.pn ++ pins)) ([] ++ pinsAt fp s7.heap) σ' H' s' → Ext (subS mp σ) σ' → m' < n → W (i + 1) m' acc' H' →
          ∃ m, m < n ∧ ∃ i acc σ' H', Inv (XC X scope NC s3.heap.objs.size s3 H3 fp (X.pn ++ pins)) [] σ' H' s' ∧ Ext (subS mp σ) σ' ∧ tn i s'.heap ∧ (∀ b ∈ fp, H' b = none) ∧ W i m acc H' := by
        intro σ' H' s' acc' m' I' hσ' hm' w'
        refine ⟨m', hm', i + 1, acc', σ', H', I'.unpinned, hσ', T.keep _ _ _ st7 fun b hb o e => (I'.pin (b, o) (List.mem_append_right _ (List.mem_append_right _ (mem_pinsAt hb e)))).1, fun b hb => ?_, w'⟩
        obtain ⟨o, e, d⟩ := T.obj _ _ st7 b hb
        exact (I'.pin (b, o) (List.mem_append_right _ (List.mem_append_right _ (mem_pinsAt hb e)))).2.1
      cases ok with
      | false =>
        rw [if_neg Bool.false_ne_true] at q9
        rw [if_neg Bool.false_ne_true]
        obtain ⟨m', hm', w'⟩ := q9
        exact again I9 ext8 hm' w'
      | true =>
        rw [if_pos rfl] at q9
        rw [if_pos rfl]
        refine thn (he _ _ _ _ _ _ s9 σ8 H9 _ I9 q9) fun v s10 ⟨y, H10, I10, r10, hD10, hz, m', hm', w'⟩ => ?_
        refine thn (mt_append (X := XC X scope NC s3.heap.objs.size s3 H3 fp (X.pn ++ pins)) _ s10 σ8 H10 (.ref D) [y] (.ref D) [v] (fun _ H' => H' = upd H10 D (.lst (acc ++ [y]))) I10 rfl (.cons r10 .nil) ⟨D, acc, y, rfl, rfl, hD10, hz, rfl⟩) fun _ s11 ⟨_, H11, I11, _, e11⟩ => ?_
        subst e11
        exact again I11 ext8 hm' w'
  exact codeAny_compStart_list loop (T.self _ 0 _ _ _ st4 loop)
end
end L2
set_option Elab.async false
set_option linter.all false
set_option maxRecDepth 100000
set_option maxHeartbeats 1000000
namespace L2
open PySem PySem.Spec PyProof.Rows
section
variable {X : Cx} {pins : List (Addr × Obj)} {σ : St} {H : Hp} {s : Shared}
theorem Ns_same {h h' : Heap} {a b : Addr} {m : Str → Option Value} (hn : h.Ns a m) (sb : Heap.SameBut b h h') (ne : a ≠ b) : h'.Ns a m := by
  obtain ⟨o, es, ep, ho, r⟩ := hn
  exact ⟨o, es, ep, (sb.2 a ne).trans ho, r⟩
variable {elt target iter : Expr} {ifs : List Expr} {scope : Scope} {NC : List Str} {mp : List (Option Nat)} {pos spos : Pos} {wi : TI} {g : TG} {tc : TT} {te : TE} {i : Nat} {x : Str} {px : Pos}
theorem ps_setC (hcalm : X.calm = true) (hN : X.N.Nodup) (hix : X.N[i]? = some x) (hx : X.env.scope.names.lookup x = some .local) (hsw : swapsWith (.ListComp elt [⟨target, iter, ifs, 0⟩] scope pos) (some (.Name x px)) spos.line X.env = pure true)
    (hi : PI X target iter wi) (hg : ∀ C s H fp pn, PG (XC X scope NC C s H fp pn) target g) (ht : ∀ C s H fp pn, PTs (XC X scope NC C s H fp pn) ifs tc) (he : ∀ C s H fp pn, PE (XC X scope NC C s H fp pn) elt te)
    (hl : mp.length = NC.length := by rfl) (hm : okMap X.N NC mp scope.names X.env.scope.names = true := by rfl) (hc : hasCells scope.names X.env.cells = true := by rfl) (hk : scope.kind = .function := by rfl)
    (hnc : ∀ y ∈ scope.names, y.2 ≠ .cell := by decide +kernel) (hnm : ∀ y ∈ scope.names, y.2 = .local → scope.names.lookup y.1 = some .local := by decide +kernel) (hs : ∀ x, foldedSetIterable iter X.env x = pure x := by intro _; rfl) :
    PS X (.Assign [.Name x px] (.ListComp elt [⟨target, iter, ifs, 0⟩] scope pos) spos) (tAsg (tComp mp wi g tc te) (gName i)) := by
  intro pins s σ H Z I h
  rw [exec_Assign_Name_used _ _ _ _ hsw]
  refine wpAny_bind (wpAny_standAt (wpAny_bind ?_))
  show wpAny _ _ (do let _ ← comprehension (.ListComp elt [⟨target, iter, ifs, 0⟩] scope pos) scope X.env _ (newList []) false (eval iter X.env) (some (assign (.Name x px) X.env))) _ _ s
  refine wpAny_bind (wpAny_mono (wpAny_comprehension_free (use := some (assign (.Name x px) X.env)) (Q := fun _ s' => SP X pins Z .next s') (E := X.xe) rfl hs (clos_eq hc) hk hnm
    (thn (hi pins s σ H _ I h) fun v s1 h1 => thn h1 fun itv s2 h2 => ?_)) (fun _ s' q => wpAny_pure (wpAny_pure q)) fun _ _ e => e)
  obtain ⟨it, fp, tn, J, H2, e, I2, T, st2, f2, W⟩ := h2
  subst e
  refine wpAny_newObj_type ?_ (by show 0 ≤ sizeLine; decide)
  have nD : H2 s2.heap.objs.size = none := I2.hok.fresh (Nat.le_refl _)
  have I3 : Inv X pins σ (upd H2 s2.heap.objs.size (.lst [])) { s2 with heap := s2.heap.push { cls := .type "list", data := .seq ([] : List Value).toArray } } :=
    I2.laid (t' := s2.toks) (fun b u e => Heap.get?_push_of_some _ e) (Nat.le_refl _) ⟨by show 0 ≤ sizeLine; decide, [], 0, .nil, Heap.get?_push_size _ rfl⟩
  obtain ⟨W, ⟨m0, w0⟩, turn⟩ := W _ nD
  have lt2 : ∀ b ∈ fp, b < s2.heap.objs.size := fun b hb => by
    obtain ⟨o, e, _⟩ := T.obj 0 _ st2 b hb
    exact Heap.lt_size e
  have nDf : ∀ b ∈ fp, b ≠ s2.heap.objs.size := fun b hb => Nat.ne_of_lt (lt2 b hb)
  have f3 : ∀ b ∈ fp, FpOk X pins (upd H2 s2.heap.objs.size (.lst [])) b := fun b hb => by
    obtain ⟨g0, g1⟩ := f2 b hb
    exact ⟨by rw [upd_ne (nDf b hb)]; exact g0, g1⟩
  have st3 : tn 0 (s2.heap.push { cls := .type "list", data := .seq ([] : List Value).toArray }) := T.keep 0 _ _ st2 fun b _ o e => Heap.get?_push_of_some _ e
  have lt3 : ∀ b ∈ fp, b < (s2.heap.push { cls := .type "list", data := .seq ([] : List Value).toArray }).objs.size := fun b hb => by
    rw [Heap.size_push]
    exact Nat.lt_succ_of_lt (lt2 b hb)
  generalize hD : s2.heap.objs.size = D at *
  generalize hs3 : ({ s2 with heap := s2.heap.push { cls := .type "list", data := .seq ([] : List Value).toArray } } : Shared) = s3 at *
  have hh3 : s3.heap = s2.heap.push { cls := .type "list", data := .seq ([] : List Value).toArray } := by rw [← hs3]
  rw [← hh3] at st3 lt3
  generalize hH3 : upd H2 D (.lst []) = H3 at *
  refine wpAny_newFunctionEnv (around := some X.env) hnc (by intro y hy; cases hy) (fun h4 hn4 hsb4 => ?_) hk
  have kp4 : ∀ b o, s3.heap.get? b = some o → h4.get? b = some o := fun b o e => hsb4.extBut b o (Nat.ne_of_lt (Heap.lt_size e)) (Heap.get?_push_of_some _ e)
  have I4 := I3.block (tk := s3.toks + ([] : List (Str × Value)).length) f3 lt3 hk hnc hc hl hm kp4 hn4
  have st4 : tn 0 h4 := T.keep 0 _ _ st3 fun b _ o e => kp4 b o e
  have nC : ∀ b o, s3.heap.get? b = some o → b ≠ s3.heap.objs.size := fun b o e => Nat.ne_of_lt (Heap.lt_size e)
  have out : ∀ (s5 : Shared) (σ5 : St) (H5 : Hp) (h6 : Heap), Inv (XC X scope NC s3.heap.objs.size s3 H3 fp (X.pn ++ pins)) [] σ5 H5 s5 → Heap.SameBut s3.heap.objs.size s5.heap h6 → Inv X pins σ H5 { s5 with heap := h6 } := by
    intro s5 σ5 H5 h6 I5 sb6
    have kp6 : ∀ b o, b ≠ s3.heap.objs.size → s5.heap.get? b = some o → h6.get? b = some o := fun b o hb e => sb6.extBut b o hb e
    have un : Un (frs X.stack) fp H3 H5 s3.heap s5.heap := I5.base
    have hfree : H5 s3.heap.objs.size = none := I5.free
    refine I3.call' (s' := { s5 with heap := h6 }) (ch := fp) I5.os ⟨fun b o e n hb hx => kp6 b o (nC b o e) (un.keep b o e n hb hx), fun b o e n hb hx => ?_, un.free, fun b o e hx => ?_, un.tups, un.frzs, un.tbls⟩ ?_ I5.bare (fun b hb => ?_)
    · obtain ⟨sl, e1⟩ := un.slot b o e n hb hx
      exact ⟨sl, kp6 b _ (nC b o e) e1⟩
    · obtain ⟨o', e1⟩ := un.there b o e hx
      exact ⟨o', kp6 b o' (nC b o e) e1⟩
    · intro b o e
      have nb : b ≠ s3.heap.objs.size := fun z => by rw [z, hfree] at e; cases e
      refine (I5.hok b o e).stay (fun c v hc' r => kp6 c v ?_ r) (fun _ r => r) fun _ _ r => r
      rcases hc' with z | z
      · rw [z]; exact nb
      · intro y
        rw [y, hfree] at z
        cases z
    · obtain ⟨g0, g1, g2, g3, g4, g5⟩ := f3 b hb
      exact ⟨g3, g1, g4, g5⟩
  have fin : ∀ (s5 : Shared) (σ5 : St) (H5 : Hp), Inv (XC X scope NC s3.heap.objs.size s3 H3 fp (X.pn ++ pins)) [] σ5 H5 s5 → Z.nx (σ.set i (some (.ref D))) H5 → compPost (model X.prog X.w) X.A X.xe (some (assign (.Name x px) X.env)) (fun _ s' => SP X pins Z .next s') (.ref D) s3.heap.objs.size (.ok .next) s5 := by
    intro s5 σ5 H5 I5 q5
    obtain ⟨m5, hn5, _⟩ := id I5.loc
    have I6 := out s5 σ5 H5 s5.heap I5 (.refl ..)
    have lC : X.env.locals ≠ s3.heap.objs.size := Nat.ne_of_lt I3.lt
    show wpAny _ _ (assign (.Name x px) X.env (.ref D)) _ _ _
    refine wpAny_assign_Name (store_ok2 (X := X) (v := .ref D) I6 hN hix (.inl hx) rfl (fun s7 I7 hch => ?_) (.inr hx))
    obtain ⟨a, sb7, ha⟩ := hch
    have aC : s3.heap.objs.size ≠ a := by
      rcases ha with z | z
      · rw [z]; exact Ne.symm lC
      · obtain ⟨v, oc, q1, _⟩ := I3.cell x a z
        exact Ne.symm (nC a oc q1)
    refine ⟨m5, Ns_same hn5 sb7 aC, fun h8 sb8 => ⟨σ.set i (some (.ref D)), H5, ?_, q5⟩⟩
    have hfree : H5 s3.heap.objs.size = none := I5.free
    have kp8 : ∀ b o, b ≠ s3.heap.objs.size → s7.heap.get? b = some o → h8.get? b = some o := fun b o hb e => sb8.extBut b o hb e
    have s0lt : ∀ b o, X.s₀.heap.get? b = some o → b ≠ s3.heap.objs.size := fun b o e => Nat.ne_of_lt (Nat.lt_of_lt_of_le (Heap.lt_size e) I3.sz)
    refine ⟨I7.ok, I7.os, I7.bare, ⟨fun b o e n hb hx => kp8 b o (s0lt b o e) (I7.base.keep b o e n hb hx), fun b o e n hb hx => ?_, I7.base.free, fun b o e hx => ?_, I7.base.tups, I7.base.frzs, I7.base.tbls⟩, ?_, fun y c e => ?_, I7.free, I7.freeC, fun p hp => ?_, ?_, I7.len⟩
    · obtain ⟨sl, e1⟩ := I7.base.slot b o e n hb hx
      exact ⟨sl, kp8 b _ (s0lt b o e) e1⟩
    · obtain ⟨o', e1⟩ := I7.base.there b o e hx
      exact ⟨o', kp8 b o' (s0lt b o e) e1⟩
    · obtain ⟨m7, hn7, hl7⟩ := I7.loc
      have cellN : ∀ y c, X.env.cells.lookup y = some c → c ≠ s3.heap.objs.size := fun y c e => by
        obtain ⟨v, oc, q1, _⟩ := I3.cell y c e
        exact nC c oc q1
      refine ⟨m7, Ns_same hn7 sb8 lC, fun j y v e1 e2 e3 => ?_⟩
      obtain ⟨u, ru, lk⟩ := hl7 j y v e1 e2 e3
      refine ⟨u, ru, ?_⟩
      rcases lk with lk | ⟨k1, c, k2, k3⟩
      · exact .inl lk
      · exact .inr ⟨k1, c, k2, k3.sameBut sb8 (cellN y c k2)⟩
    · obtain ⟨w', z⟩ := I7.cell y c e
      obtain ⟨v, oc, q1, _⟩ := I3.cell y c e
      exact ⟨w', z.sameBut sb8 (nC c oc q1)⟩
    · obtain ⟨e, n1, n2, n3, n4⟩ := I7.pin p hp
      obtain ⟨e3, _⟩ := I3.pin p hp
      exact ⟨kp8 _ _ (nC _ _ e3) e, n1, n2, n3, n4⟩
    · intro b o e
      have nb : b ≠ s3.heap.objs.size := fun z => by rw [z, hfree] at e; cases e
      refine (I7.hok b o e).stay (fun c v hc' r => kp8 c v ?_ r) (fun _ r => r) fun _ _ r => r
      rcases hc' with z | z
      · rw [z]; exact nb
      · intro y
        rw [y, hfree] at z
        cases z
  have loop : codeAny (model X.prog X.w) X.A (.compLoop (.ListComp elt [⟨target, iter, ifs, 0⟩] scope pos) 0 (.ref it) (.ref D) (compEnvC scope (closOf scope.names X.env.cells []) s3.heap.objs.size X.env)) (compPost (model X.prog X.w) X.A X.xe (some (assign (.Name x px) X.env)) (fun _ s' => SP X pins Z .next s') (.ref D) s3.heap.objs.size)
      { s3 with heap := h4, toks := s3.toks + ([] : List (Str × Value)).length } := by
    refine comp_turns (fun n s' => ∃ i acc σ' H', Inv (XC X scope NC s3.heap.objs.size s3 H3 fp (X.pn ++ pins)) [] σ' H' s' ∧ Ext (subS mp σ) σ' ∧ tn i s'.heap ∧ (∀ b ∈ fp, H' b = none) ∧ W i n acc H') ?_ m0
      ⟨0, [], subS mp σ, H3, I4, fun _ _ e => e, st4, fun b hb => (f3 b hb).1, w0⟩
    rintro n s5 ⟨i, acc, σ5, H5, I5, hσ, st5, fr5, w5⟩
    have I5' : Inv (XC X scope NC s3.heap.objs.size s3 H3 fp (X.pn ++ pins)) [] (subS mp σ) H5 s5 := I5.weak (by rw [I5.len]; unfold subS; rw [List.length_map]; exact hl) hσ
    have fpk : ∀ {H' : Hp}, (∀ b ∈ fp, H' b = none) → ∀ b ∈ fp, FpOk (XC X scope NC s3.heap.objs.size s3 H3 fp (X.pn ++ pins)) [] H' b := fun hn b hb => by
      obtain ⟨g0, g1, g2, g3, g4, g5⟩ := f3 b hb
      refine ⟨hn b hb, Nat.ne_of_lt (lt3 b hb), ?_, .inl hb, (I4.ok.exf b hb).2, fun p hp => g5 p (by simpa using hp)⟩
      exact I4.ok.exfs b hb
    rcases turn i n acc H5 w5 with ⟨stop, q⟩ | ⟨go, step⟩
    · refine thn (T.done (XC X scope NC s3.heap.objs.size s3 H3 fp (X.pn ++ pins)) rfl rfl rfl hcalm i [] s5 _ H5 (fun _ _ => False) I5' (fpk fr5) st5 stop) fun r s6 ⟨hr, I6⟩ => ?_
      subst hr
      exact fin s6 _ H5 I6 q
    · refine thn (T.item (XC X scope NC s3.heap.objs.size s3 H3 fp (X.pn ++ pins)) rfl rfl rfl hcalm i [] s5 _ H5 (fun _ _ => False) I5' (fpk fr5) st5 go) fun r s6 ⟨u, hr, h6⟩ => ?_
      subst hr
      refine thn h6 fun _ s7 ⟨x, H7, I7, r7, y7, st7, fr7⟩ => ?_
      have I7' := I7.pinned (fpk fr7) (T.obj _ _ st7)
      refine thn (hg _ _ _ _ _ _ s7 _ H7 x u _ I7' r7 (step x H7 y7)) fun _ s8 ⟨σ8, H8, I8, ext8, q8⟩ => ?_
      refine thn (ht _ _ _ _ _ _ s8 σ8 H8 _ I8 q8) fun ok s9 ⟨H9, I9, q9⟩ => ?_
      have again : ∀ {σ' : St} {H' : Hp} {s' : Shared} {acc' : List V} {m' : Nat}, Inv (XC X scope NC s3.heap.objs.size s3 H3 fp (X.pn ++ pins)) ([] ++ pinsAt fp s7.heap) σ' H' s' → Ext (subS mp σ) σ' → m' < n → W (i + 1) m' acc' H' →
          ∃ m, m < n ∧ ∃ i acc σ' H', Inv (XC X scope NC s3.heap.objs.size s3 H3 fp (X.pn ++ pins)) [] σ' H' s' ∧ Ext (subS mp σ) σ' ∧ tn i s'.heap ∧ (∀ b ∈ fp, H' b = none) ∧ W i m acc H' := by
        intro σ' H' s' acc' m' I' hσ' hm' w'
        refine ⟨m', hm', i + 1, acc', σ', H', I'.unpinned, hσ', T.keep _ _ _ st7 fun b hb o e => (I'.pin (b, o) (List.mem_append_right _ (List.mem_append_right _ (mem_pinsAt hb e)))).1, fun b hb => ?_, w'⟩
        obtain ⟨o, e, d⟩ := T.obj _ _ st7 b hb
        exact (I'.pin (b, o) (List.mem_append_right _ (List.mem_append_right _ (mem_pinsAt hb e)))).2.1
      cases ok with
      | false =>
        rw [if_neg Bool.false_ne_true] at q9
        rw [if_neg Bool.false_ne_true]
        obtain ⟨m', hm', w'⟩ := q9
        exact again I9 ext8 hm' w'
      | true =>
        rw [if_pos rfl] at q9
        rw [if_pos rfl]
        refine thn (he _ _ _ _ _ _ s9 σ8 H9 _ I9 q9) fun v s10 ⟨y, H10, I10, r10, hD10, hz, m', hm', w'⟩ => ?_
        refine thn (mt_append (X := XC X scope NC s3.heap.objs.size s3 H3 fp (X.pn ++ pins)) _ s10 σ8 H10 (.ref D) [y] (.ref D) [v] (fun _ H' => H' = upd H10 D (.lst (acc ++ [y]))) I10 rfl (.cons r10 .nil) ⟨D, acc, y, rfl, rfl, hD10, hz, rfl⟩) fun _ s11 ⟨_, H11, I11, _, e11⟩ => ?_
        subst e11
        exact again I11 ext8 hm' w'
  exact codeAny_compStart_list loop (T.self _ 0 _ _ _ st4 loop)
end
end L2
set_option Elab.async false
set_option linter.all false
set_option maxRecDepth 100000
set_option maxHeartbeats 4000000
namespace L2
open PySem PySem.Spec PyProof.Rows
section
variable {κ : Type} [DecidableEq κ]
def valV (kvs : List (κ × V)) (k : κ) : Option V := (kvs.find? fun kv => decide (kv.1 = k)).map (·.2)
def putK (kvs : List (κ × V)) (k : κ) (v : V) : List (κ × V) :=
  if (kvs.any fun kv => decide (kv.1 = k)) = true then kvs.map (fun kv => if kv.1 = k then (kv.1, v) else kv) else kvs ++ [(k, v)]
def dropK (kvs : List (κ × V)) (k : κ) : List (κ × V) := kvs.filter fun kv => decide (kv.1 ≠ k)

theorem valV_pos {p : κ × V} {r : List (κ × V)} {k : κ} (e : p.1 = k) : valV (p :: r) k = some p.2 := by simp [valV, List.find?_cons, e]
theorem valV_neg {p : κ × V} {r : List (κ × V)} {k : κ} (e : ¬ p.1 = k) : valV (p :: r) k = valV r k := by simp [valV, List.find?_cons, e]
theorem valV_any (k : κ) : ∀ kvs : List (κ × V), (kvs.any fun kv => decide (kv.1 = k)) = (valV kvs k).isSome
  | [] => rfl
  | p :: r => by
    rw [List.any_cons]
    by_cases e : p.1 = k
    · simp only [valV_pos e, decide_eq_true e, Bool.true_or, Option.isSome_some]
    · rw [valV_neg e, decide_eq_false e, Bool.false_or]; exact valV_any k r
theorem length_putK (kvs : List (κ × V)) (k : κ) (v : V) : (putK kvs k v).length ≤ kvs.length + 1 := by
  unfold putK
  split
  · rw [List.length_map]; omega
  · rw [List.length_append, List.length_cons, List.length_nil]; omega
theorem putK_new {kvs : List (κ × V)} {k : κ} (v : V) (h : valV kvs k = none) : putK kvs k v = kvs ++ [(k, v)] := by
  unfold putK
  rw [valV_any, h]
  exact if_neg (by decide)

theorem RelO.isSome_eq {o : Option V} {u : Option Value} (r : RelO o u) : o.isSome = u.isSome := by
  cases o with
  | none => cases u with
    | none => rfl
    | some _ => exact (show False from r).elim
  | some _ => cases u with
    | none => exact (show False from r).elim
    | some _ => rfl
theorem RelO.getD {o : Option V} {u : Option Value} {d : V} {d' : Value} (r : RelO o u) (rd : RelV d d') : RelV (o.getD d) (u.getD d') := by
  cases o with
  | none => cases u with
    | none => exact rd
    | some _ => exact (show False from r).elim
  | some _ => cases u with
    | none => exact (show False from r).elim
    | some _ => exact r

theorem KV.val {kvs : List (κ × V)} {vs : List (κ × Value)} (r : KV kvs vs) (k : κ) : RelO (valV kvs k) (valueAt vs k) := by
  unfold KV at r
  induction r with
  | nil => exact True.intro
  | @cons p q ps qs h t ih =>
    obtain ⟨h1, h2⟩ := h
    by_cases e : p.1 = k
    · have e' : q.1 = k := h1.symm.trans e
      have b : valueAt (q :: qs) k = some q.2 := by simp [valueAt, List.find?_cons, e']
      rw [valV_pos e, b]; exact h2
    · have e' : ¬ q.1 = k := fun z => e (h1.trans z)
      have b : valueAt (q :: qs) k = valueAt qs k := by simp [valueAt, List.find?_cons, e']
      rw [valV_neg e, b]; exact ih
theorem KV.any {kvs : List (κ × V)} {vs : List (κ × Value)} (r : KV kvs vs) (k : κ) : (kvs.any fun kv => decide (kv.1 = k)) = vs.any fun kv => decide (kv.1 = k) := by
  unfold KV at r
  induction r with
  | nil => rfl
  | cons h t ih => rw [List.any_cons, List.any_cons, ih, h.1]
theorem KV.repl {kvs : List (κ × V)} {vs : List (κ × Value)} (r : KV kvs vs) (k : κ) {y : V} {u : Value} (ry : RelV y u) :
    KV (kvs.map fun kv => if kv.1 = k then (kv.1, y) else kv) (vs.map fun kv => if kv.1 = k then (kv.1, u) else kv) := by
  unfold KV at r ⊢
  induction r with
  | nil => exact .nil
  | @cons p q ps qs h t ih =>
    rw [List.map_cons, List.map_cons]
    refine .cons ?_ ih
    obtain ⟨h1, h2⟩ := h
    by_cases e : p.1 = k
    · rw [if_pos e, if_pos (h1.symm.trans e)]; exact ⟨h1, ry⟩
    · rw [if_neg e, if_neg (fun z => e (h1.trans z))]; exact ⟨h1, h2⟩
theorem KV.put {kvs : List (κ × V)} {vs : List (κ × Value)} (r : KV kvs vs) (k : κ) {y : V} {u : Value} (ry : RelV y u) : KV (putK kvs k y) (stored vs k u) := by
  unfold putK stored
  rw [r.any k]
  by_cases e : (vs.any fun kv => decide (kv.1 = k)) = true
  · rw [if_pos e, if_pos e]; exact r.repl k ry
  · rw [if_neg e, if_neg e]; exact Paired.snoc r ⟨rfl, ry⟩
theorem KV.drop {kvs : List (κ × V)} {vs : List (κ × Value)} (r : KV kvs vs) (k : κ) : KV (dropK kvs k) (without vs k) := by
  unfold KV at r ⊢
  unfold dropK without
  induction r with
  | nil => exact .nil
  | @cons p q ps qs h t ih =>
    obtain ⟨h1, h2⟩ := h
    rw [List.filter_cons, List.filter_cons]
    by_cases e : p.1 = k
    · have a : ¬ decide (p.1 ≠ k) = true := by simp [e]
      have b : ¬ decide (q.1 ≠ k) = true := by simp [h1.symm.trans e]
      rw [if_neg a, if_neg b]; exact ih
    · have e' : ¬ q.1 = k := fun z => e (h1.trans z)
      have a : decide (p.1 ≠ k) = true := by simp [e]
      have b : decide (q.1 ≠ k) = true := by simp [e']
      rw [if_pos a, if_pos b]; exact .cons ⟨h1, h2⟩ ih
theorem KV.keys {kvs : List (κ × V)} {vs : List (κ × Value)} (r : KV kvs vs) : kvs.map (·.1) = vs.map (·.1) := by
  unfold KV at r
  induction r with
  | nil => rfl
  | cons h t ih => rw [List.map_cons, List.map_cons, ih, h.1]
theorem KV.length {kvs : List (κ × V)} {vs : List (κ × Value)} (r : KV kvs vs) : kvs.length = vs.length := Paired.length r
end
theorem kV_is {P : Program} {w : World} {k : Key} {u : Value} (r : RelV (kV k) u) : (mixKind P w).is k u = true := by
  cases k with
  | inl i => obtain ⟨t, e⟩ := (show ∃ t, u = Value.int i t from r); subst e; exact mixKind_int P w i t
  | inr x => obtain ⟨t, e⟩ := (show ∃ t, u = Value.str x t from r); subst e; exact mixKind_str P w x t
theorem items_are {P : Program} {w : World} : ∀ {ks : List Key} {us : List Value}, Vals (ks.map kV) us → ItemsAre (mixKind P w) ks us
  | [], _, r => by rw [List.map_nil] at r; cases r; exact .nil
  | k :: ks, _, r => by
    rw [List.map_cons] at r
    cases r with
    | cons h t => exact .cons (kV_is h) (items_are t)

abbrev KT (H : Hp) : List (List Key × V) → List (List Key × Addr × Value) → Prop := Paired fun p q => p.1 = q.1 ∧ H q.2.1 = some (.tup (p.1.map kV)) ∧ RelV p.2 q.2.2
theorem KT.val {H : Hp} {kvs : List (List Key × V)} {xs : List (List Key × Addr × Value)} (r : KT H kvs xs) (k : List Key) : RelO (valV kvs k) ((atKey xs k).map (·.2)) := by
  induction r with
  | nil => exact True.intro
  | @cons p q ps qs h t ih =>
    obtain ⟨h1, _, h2⟩ := h
    by_cases e : p.1 = k
    · have e' : q.1 = k := h1.symm.trans e
      have b : atKey (q :: qs) k = some q.2 := by simp [atKey, List.find?_cons, e']
      rw [valV_pos e, b]; exact h2
    · have e' : ¬ q.1 = k := fun z => e (h1.trans z)
      have b : atKey (q :: qs) k = atKey qs k := by simp [atKey, List.find?_cons, e']
      rw [valV_neg e, b]; exact ih
theorem KT.repl {H : Hp} {kvs : List (List Key × V)} {xs : List (List Key × Addr × Value)} (r : KT H kvs xs) (k : List Key) {y : V} {u : Value} (ry : RelV y u) :
    KT H (kvs.map fun kv => if kv.1 = k then (kv.1, y) else kv) (xs.map (putAt k u)) := by
  induction r with
  | nil => exact .nil
  | @cons p q ps qs h t ih =>
    rw [List.map_cons, List.map_cons]
    refine .cons ?_ ih
    obtain ⟨h1, h2, h3⟩ := h
    unfold putAt
    by_cases e : p.1 = k
    · rw [if_pos e, if_pos (h1.symm.trans e)]; exact ⟨h1, h2, ry⟩
    · rw [if_neg e, if_neg (fun z => e (h1.trans z))]; exact ⟨h1, h2, h3⟩
theorem KT.put {H : Hp} {kvs : List (List Key × V)} {xs : List (List Key × Addr × Value)} (r : KT H kvs xs) (k : List Key) {b : Addr} {y : V} {u : Value} (hb : H b = some (.tup (k.map kV))) (ry : RelV y u) :
    KT H (putK kvs k y) (storedH xs k b u) := by
  have e : (kvs.any fun kv => decide (kv.1 = k)) = (atKey xs k).isSome := by
    rw [valV_any, (r.val k).isSome_eq, Option.isSome_map]
  unfold putK storedH
  rw [e]
  by_cases q : (atKey xs k).isSome = true
  · rw [if_pos q, if_pos q]; exact r.repl k ry
  · rw [if_neg q, if_neg q]; exact Paired.snoc r ⟨rfl, hb, ry⟩
theorem KT.keeps {H H' : Hp} {kvs : List (List Key × V)} {xs : List (List Key × Addr × Value)} (r : KT H kvs xs) (ht : ∀ b ys, H b = some (.tup ys) → H' b = some (.tup ys)) : KT H' kvs xs :=
  Paired.mapP r fun _ _ z => ⟨z.1, ht _ _ z.2.1, z.2.2⟩

section
variable {P : Program} {w : World} {H : Hp} {h : Heap} {a : Addr}
theorem rd_of {u : HO} (ok : HOk P w H h) (e : Rd H a u) : ObjOk P w H h a u := e.ok ok
theorem dk_rd {kvs : List (Key × V)} (ok : HOk P w H h) (e : Rd H a (.dK kvs)) : kvs.length ≤ sizeLine ∧ (a == sysModules) = false ∧ ∃ vs, KV kvs vs ∧ h.DictOf (mixKind P w) a vs :=
  show ObjOk P w H h a (.dK kvs) from rd_of ok e
theorem dk_of {kvs : List (Key × V)} (ok : HOk P w H h) (e : H a = some (.dK kvs)) : kvs.length ≤ sizeLine ∧ (a == sysModules) = false ∧ ∃ vs, KV kvs vs ∧ h.DictOf (mixKind P w) a vs := dk_rd ok (.inl e)
theorem key_of {ks : List Key} (ok : HOk P w H h) (e : H a = some (.tup (ks.map kV))) : (tupleKind (mixKind P w)).is h ks a := by
  obtain ⟨_, its, r, o, h1, h2, n, h3⟩ := (show ObjOk P w H h a (.tup (ks.map kV)) from ok a _ e)
  exact ⟨o, its.toArray, n, h1, h2, h3, by simpa using items_are r⟩
theorem dt_rd {kvs : List (List Key × V)} (ok : HOk P w H h) (e : Rd H a (.dT kvs)) : kvs.length ≤ sizeLine ∧ (a == sysModules) = false ∧
    ∃ xs, KT H kvs xs ∧ h.DictOfH (tupleKind (mixKind P w)) a xs := by
  obtain ⟨z, y, xs, r, o, es, ep, h1, h2, h3, h4, h5⟩ := (show ObjOk P w H h a (.dT kvs) from rd_of ok e)
  refine ⟨z, y, xs, r, o, es, ep, h1, h2, h3, h4, fun x hx => ?_, h5⟩
  have all : ∀ {l : List (List Key × V)} {m : List (List Key × Addr × Value)}, KT H l m → ∀ x ∈ m, (tupleKind (mixKind P w)).is h x.1 x.2.1 := by
    intro l m q
    induction q with
    | nil => intro x hx; exact nomatch hx
    | @cons p q ps qs hq t ih =>
      intro x hx
      rcases List.mem_cons.mp hx with e | hx
      · subst e
        exact key_of ok (by rw [← hq.1]; exact hq.2.1)
      · exact ih x hx
  exact all r x hx
theorem dt_of {kvs : List (List Key × V)} (ok : HOk P w H h) (e : H a = some (.dT kvs)) : kvs.length ≤ sizeLine ∧ (a == sysModules) = false ∧
    ∃ xs, KT H kvs xs ∧ h.DictOfH (tupleKind (mixKind P w)) a xs := dt_rd ok (.inl e)
end
def DGet (H : Hp) (a : Addr) (y : V) (r : Option V) : Prop :=
  (∃ kvs k, Rd H a (.dK kvs) ∧ y = kV k ∧ r = valV kvs k) ∨ ∃ kvs k b, Rd H a (.dT kvs) ∧ y = .ref b ∧ H b = some (.tup (k.map kV)) ∧ r = valV kvs k
def DPut (H : Hp) (a : Addr) (y v : V) (H' : Hp) : Prop :=
  (∃ kvs k, H a = some (.dK kvs) ∧ y = kV k ∧ kvs.length < sizeLine ∧ H' = upd H a (.dK (putK kvs k v))) ∨
  ∃ kvs k b, H a = some (.dT kvs) ∧ y = .ref b ∧ H b = some (.tup (k.map kV)) ∧ kvs.length < sizeLine ∧ H' = upd H a (.dT (putK kvs k v))
theorem DGet.k {H : Hp} {a : Addr} {kvs : List (Key × V)} {k : Key} (e : H a = some (.dK kvs)) : DGet H a (kV k) (valV kvs k) := .inl ⟨kvs, k, .inl e, rfl, rfl⟩
theorem DGet.t {H : Hp} {a b : Addr} {kvs : List (List Key × V)} {k : List Key} (e : H a = some (.dT kvs)) (eb : H b = some (.tup (k.map kV))) : DGet H a (.ref b) (valV kvs k) := .inr ⟨kvs, k, b, .inl e, rfl, eb, rfl⟩
theorem DPut.k {H : Hp} {a : Addr} {kvs : List (Key × V)} {k : Key} {v : V} (e : H a = some (.dK kvs)) (hl : kvs.length < sizeLine) : DPut H a (kV k) v (upd H a (.dK (putK kvs k v))) := .inl ⟨kvs, k, e, rfl, hl, rfl⟩
theorem DPut.t {H : Hp} {a b : Addr} {kvs : List (List Key × V)} {k : List Key} {v : V} (e : H a = some (.dT kvs)) (eb : H b = some (.tup (k.map kV))) (hl : kvs.length < sizeLine) :
    DPut H a (.ref b) v (upd H a (.dT (putK kvs k v))) := .inr ⟨kvs, k, b, e, rfl, eb, hl, rfl⟩


section
variable {X : Cx} {pins : List (Addr × Obj)} {σ : St} {H : Hp} {s : Shared} {a : Addr} {y v : V} {u r : Value} {o : Option V} {A : Around} {E : Value → Shared → Prop}
theorem Inv.big (I : Inv X pins σ H s) : sysModules < s.heap.objs.size := by
  have h : mainGlobals < s.heap.objs.size := (I.mod.glob.keeps I.bk).lt
  exact Nat.lt_trans (by decide) h

theorem d_notIn {Q : Value → Shared → Prop} (hu : A.units + 1 < cLine) (I : Inv X pins σ H s) (g : DGet H a y o) (ry : RelV y u) (h : ∀ s', Inv X pins σ H s' → Q (.bool (!o.isSome)) s') :
    wpAny (model X.prog X.w) A (compareOp .NotIn u (.ref a)) Q E s := by
  rcases g with ⟨kvs, k, e, ey, l⟩ | ⟨kvs, k, b, e, ey, eb, l⟩
  · subst ey
    obtain ⟨z, hd, vs, rel, dd⟩ := dk_rd I.hok e
    refine wpAny_notIn_of (kV_is ry) hd dd.mapOf ?_
    rw [← (rel.val k).isSome_eq, ← l]
    exact h _ (I.tok _)
  · subst ey
    cases (show u = Value.ref b from ry)
    obtain ⟨z, hd, xs, rel, dd⟩ := dt_rd I.hok e
    refine wpAny_notIn_heap (tupleKind_room_in1 hu) (key_of I.hok eb) hd dd ?_
    have q := (rel.val k).isSome_eq
    rw [Option.isSome_map] at q
    rw [← q, ← l]
    exact h _ (I.tok _)
theorem d_write {h' : Heap} {t' : Nat} {ob : HO} (I : Inv X pins σ H s) (mu : Mut (H a)) (hs : Heap.SameBut a s.heap h') (he : ∃ q, h'.get? a = some q) (new : ObjOk X.prog X.w (upd H a ob) h' a ob) :
    Inv X pins σ (upd H a ob) { s with heap := h', toks := t' } :=
  I.write (x := a) (e := a) mu (.inl rfl) (fun b q hb z => (hs.2 b hb).trans z) he new
theorem dk_new {P : Program} {w : World} {H' : Hp} {h' : Heap} {kvs : List (Key × V)} {vs : List (Key × Value)} (z : kvs.length ≤ sizeLine) (hd : (a == sysModules) = false) (rel : KV kvs vs) (dd : h'.DictOf (mixKind P w) a vs) :
    ObjOk P w H' h' a (.dK kvs) := ⟨z, hd, vs, rel, dd⟩
theorem d_setItem {H' : Hp} {Q : Unit → Shared → Prop} (hu : A.units + 1 < cLine) (I : Inv X pins σ H s) (g : DPut H a y v H') (ry : RelV y u) (rv : RelV v r) (h : ∀ s', Inv X pins σ H' s' → Q () s') :
    wpAny (model X.prog X.w) A (setItem (.ref a) u r) Q E s := by
  rcases g with ⟨kvs, k, e, ey, l, eH⟩ | ⟨kvs, k, b, e, ey, eb, l, eH⟩
  · subst ey eH
    obtain ⟨z, hd, vs, rel, dd⟩ := dk_of I.hok e
    have hz : vs.length ≤ sizeLine := by rw [← rel.length]; exact z
    have hl : (putK kvs k v).length ≤ sizeLine := by have := length_putK kvs k v; omega
    refine wpAny_setItem_pairs (hsz := hz) (kV_is ry) dd fun h' dd' hs => h _ ?_
    have he : ∃ q, h'.get? a = some q := let ⟨q, _, _, hq, _⟩ := dd'; ⟨q, hq⟩
    exact d_write I (by rw [e]; exact True.intro) hs he (dk_new hl hd (rel.put k rv) dd')
  · subst ey eH
    cases (show u = Value.ref b from ry)
    obtain ⟨z, hd, xs, rel, dd⟩ := dt_of I.hok e
    have hz : xs.length ≤ sizeLine := by rw [← Paired.length rel]; exact z
    have hl : (putK kvs k v).length ≤ sizeLine := by have := length_putK kvs k v; omega
    refine wpAny_setItem_heap (hsz := hz) (tupleKind_room_in1 hu) (key_of I.hok eb) dd fun h' dd' hs => h _ ?_
    obtain ⟨q, es, ep, hq, h2, h3, h4, _, h5⟩ := dd'
    refine d_write I (by rw [e]; exact True.intro) hs ⟨q, hq⟩ ⟨hl, hd, _, (rel.put k eb rv).keeps fun c ys ec => ?_, q, es, ep, hq, h2, h3, h4, h5⟩
    rw [upd_ne (ne_of ec e (fun z => nomatch z))]
    exact ec
end
section
variable {X : Cx} {pins : List (Addr × Obj)} {σ : St} {H : Hp} {s : Shared} {a : Addr} {kvs : List (Key × V)} {k : Key} {u : Value} {A : Around} {E : Value → Shared → Prop}
end
def NoSl (i : Expr) : Prop := ∀ ov iv, subscripted i false ov iv = operate [ov, iv] (getItem ov iv)
theorem subD_of {prog : Program} {w : World} {A : Around} {E : Value → Shared → Prop} {s : Shared} {env : Env} {value slice : Expr} {pos : Pos} {T id : String} {Q : Value → Shared → Prop}
    (hl : typeLookup (.type T) "__getitem__" = pure (some (.builtin id))) (hs : NoSl slice)
    (h : wpAny (model prog w) A (eval value env) (fun o s₁ => wpAny (model prog w) A (eval slice env) (fun i s₂ => s₂.TypeIs o T ∧ wpAny (model prog w) A (getItem o i) Q E s₂) E s₁) E s) :
    wpAny (model prog w) A (eval (.Subscript value slice pos) env) Q E s := by
  refine Subscript_ (wpAny_mono h (fun o s₁ h₁ => wpAny_mono h₁ (fun i s₂ h₂ => ?_) fun _ _ x => x) fun _ _ x => x)
  obtain ⟨hT, h₂⟩ := h₂
  unfold subscriptTail
  refine wpAny_bind ?_
  rw [getitemInPython_of_ne hT.not_modules]
  refine wpAny_bind (wpAny_specialOf hT hl ?_)
  have fin : wpAny (model prog w) A (subscripted slice false o i) (fun r s₃ => wpAny (model prog w) A (letTemporaryGo value o r >>= fun _ => pure r) Q E s₃) E s₂ := by
    rw [hs o i]
    exact wpAny_operating (wpAny_mono h₂ (fun r s₃ h₃ => wpAny_bind (wpAny_letTemporaryGo (wpAny_pure h₃))) fun _ _ x => x)
  first
    | exact wpAny_pure (wpAny_bind fin)
    | exact wpAny_bind (wpAny_pure (wpAny_bind fin))
    | exact wpAny_bind fin

def tDNotIn (ty td : TE) : TE := fun σ H Q => ty σ H fun y H1 => td σ H1 fun x H2 => ∃ a o, x = .ref a ∧ DGet H2 a y o ∧ Q (.bl (!o.isSome)) H2
def sDPut (td ty tv : TE) : TS := fun D σ H => tv σ H fun v H1 => td σ H1 fun x H2 => ty σ H2 fun y H3 => ∃ a H4, x = .ref a ∧ DPut H3 a y v H4 ∧ D.nx σ H4
section
variable {X : Cx} {o i e value : Expr} {pos pos' tpos : Pos} {td ty tv : TE}
theorem pc_dnotin (hu : X.A.units + 1 < cLine) (hi : PE X i ty) (ho : PE X o td) : PC X .NotIn i o (tDNotIn ty td) := by
  intro pins s σ H Q I h
  refine thn (hi pins s σ H _ I h) fun iv s1 ⟨y, H1, I1, ry, q1⟩ => thn (ho pins s1 σ H1 _ I1 q1) fun u s2 ⟨x, H2, I2, rx, a, ov, ex, g, q2⟩ => ?_
  subst ex
  obtain rfl : u = Value.ref a := rx
  exact d_notIn hu I2 g ry fun s3 I3 => ⟨.bl (!ov.isSome), H2, I3, rfl, q2⟩
theorem ps_dput (hu : X.A.units + 1 < cLine) (ho : PE X o td) (hi : PE X i ty) (hv : PE X value tv) (hs : swapsWith value (some (.Subscript o i pos')) pos.line X.env = pure false) :
    PS X (.Assign [.Subscript o i pos'] value pos) (sDPut td ty tv) := by
  intro pins s σ H D I h
  refine wpAny_Assign_Subscript (thn (hv pins s σ H _ I h) fun r s1 ⟨v, H1, I1, rv, q1⟩ => thn (ho pins s1 σ H1 _ I1 q1) fun u s2 ⟨x, H2, I2, rx, q2⟩ => thn (hi pins s2 σ H2 _ I2 q2) fun iv s3 ⟨y, H3, I3, ry, a, H4, ex, g, q3⟩ => ?_) hs
  subst ex
  obtain rfl : u = Value.ref a := rx
  exact d_setItem hu I3 g ry rv fun s4 I4 => ⟨σ, H4, I4, q3⟩
end
theorem dk_empty {P : Program} {w : World} {H : Hp} (h : Heap) (hb : sysModules < h.objs.size) : ObjOk P w H (h.push { cls := .type "dict", data := .dict #[] }) h.objs.size (.dK []) :=
  ⟨Nat.zero_le _, beq_eq_false_iff_ne.mpr (Ne.symm (Nat.ne_of_lt hb)), [], .nil, Heap.DictOf.new h⟩
def tDNewK : TE := fun _ H Q => ∀ p, H p = none → Q (.ref p) (upd H p (.dK []))
section
variable {X : Cx} {pos : Pos}
theorem pe_dnewK : PE X (.Dict [] [] pos) tDNewK := fun pins s σ H Q I h =>
  wpAny_Dict_empty ⟨.ref s.heap.objs.size, _, I.laid (a := s.heap.objs.size) (o := .dK []) (t' := s.toks) (fun _ _ q => Heap.get?_push_of_some _ q) (Nat.le_refl _) (dk_empty s.heap I.big), rfl, h _ (I.hok.fresh (Nat.le_refl _))⟩
end
section
variable {X : Cx} {pins : List (Addr × Obj)} {σ : St} {H : Hp} {s : Shared} {a : Addr} {y d : V} {u r : Value} {o : Option V} {A : Around} {E : Value → Shared → Prop}
end
section
variable {X : Cx} {o e f : Expr} {apos cpos : Pos} {td ty tx : TE}
end
section
variable {X : Cx} {pins : List (Addr × Obj)} {σ : St} {H : Hp} {s : Shared} {a : Addr} {kvs : List (Key × V)} {A : Around} {E : Value → Shared → Prop}
end
section
variable {X : Cx} {pins : List (Addr × Obj)} {σ : St} {H : Hp} {s : Shared} {a : Addr} {y : V} {u : Value} {A : Around} {E : Value → Shared → Prop}
end
end L2
set_option Elab.async false
set_option linter.all false
set_option maxRecDepth 100000
set_option maxHeartbeats 1000000
namespace L2
open PySem PySem.Spec PyProof.Rows
def CompW (J : It) (D : Addr) (te : TE) (rest : L2.St) (Q : VK) (H1 : Hp) : Prop :=
  ∃ W : Nat → Nat → List V → Hp → Prop, (∃ m, W 0 m [] (upd H1 D (.lst []))) ∧ ∀ i m acc H2, W i m acc H2 →
    (J.stop i H2 ∧ Q (.ref D) H2) ∨
    (J.go i H2 ∧ ∀ x H3, J.yld i H2 x H3 → gName 0 x (none :: rest) H3 fun σ4 H4 => Ext (none :: rest) σ4 ∧ tNoTest σ4 H4 fun b H5 => if b = true then te σ4 H5 fun v H6 => H6 D = some (.lst acc) ∧ acc.length < sizeLine ∧ ∃ m', m' < m ∧ W (i + 1) m' (acc ++ [v]) (upd H6 D (.lst (acc ++ [v])))
      else ∃ m', m' < m ∧ W (i + 1) m' acc H5)
theorem tcomp_of {mp : List (Option Nat)} {wi : TI} {te : TE} {σ rest : L2.St} {H : Hp} {Q : VK} (e : subS mp σ = none :: rest) (h : wi σ H fun J H1 => ∀ D, H1 D = none → CompW J D te rest Q H1) : tComp mp wi (gName 0) tNoTest te σ H Q := by
  unfold tComp
  rw [e]
  exact h
theorem tset_of {mp : List (Option Nat)} {wi : TI} {te : TE} {u : TS} {Z : Ends} {i : Nat} {σ rest : L2.St} {H : Hp} (e : subS mp σ = none :: rest) (h : wi σ H fun J H1 => ∀ D, H1 D = none → CompW J D te rest (fun x H2 => gName i x σ H2 (u Z)) H1) :
    tSeq (tAsg (tComp mp wi (gName 0) tNoTest te) (gName i)) u Z σ H := tcomp_of e h
def CompN (n i : Nat) (D : Addr) (acc : List V) (Pv : Nat → List V → Hp → Prop) : VK := fun v H6 => H6 D = some (.lst acc) ∧ acc.length < sizeLine ∧ ∃ m', m' < n - i ∧ (m' = n - (i + 1) ∧ i + 1 ≤ n ∧ Pv (i + 1) (acc ++ [v]) (upd H6 D (.lst (acc ++ [v]))))
theorem CompN.mk {n i : Nat} {D : Addr} {acc : List V} {Pv : Nat → List V → Hp → Prop} {v : V} {H6 : Hp} (hi : i < n) (hl : acc.length < sizeLine) (h1 : H6 D = some (.lst acc)) (h2 : Pv (i + 1) (acc ++ [v]) (upd H6 D (.lst (acc ++ [v])))) : CompN n i D acc Pv v H6 :=
  ⟨h1, hl, n - (i + 1), by omega, rfl, hi, h2⟩
theorem comp_go {J : It} {D : Addr} {te : TE} {rest : L2.St} {Q : VK} {H1 : Hp} (n : Nat) (Pv : Nat → List V → Hp → Prop) (h0 : Pv 0 [] (upd H1 D (.lst [])))
    (hgo : ∀ i acc H, i < n → Pv i acc H → J.go i H)
    (hs : ∀ i x acc H H', i < n → Pv i acc H → J.yld i H x H' → te (some x :: rest) H' (CompN n i D acc Pv))
    (hd : ∀ acc H, Pv n acc H → J.stop n H ∧ Q (.ref D) H) : CompW J D te rest Q H1 := by
  refine ⟨fun i m acc H => m = n - i ∧ i ≤ n ∧ Pv i acc H, ⟨n, by simp, Nat.zero_le _, h0⟩, ?_⟩
  rintro i m acc H ⟨rfl, hi, p⟩
  by_cases hlt : i < n
  · refine .inr ⟨hgo i acc H hlt p, fun x H' y => ?_⟩
    refine ⟨ext1, ?_⟩
    show (if true = true then te (some x :: rest) H' (CompN n i D acc Pv) else ∃ m', m' < n - i ∧ (m' = n - (i + 1) ∧ i + 1 ≤ n ∧ Pv (i + 1) acc H'))
    exact iteT (hs i x acc H H' hlt p y)
  · have e : i = n := by omega
    subst e
    exact .inl (hd acc H p)
theorem comp_tup {K : PySem.W.Frag} {a D : Addr} {xs : List V} {te : TE} {rest : L2.St} {Q : VK} {H1 : Hp} (Pv : Nat → List V → Hp → Prop) (h0 : Pv 0 [] (upd H1 D (.lst [])))
    (hl : ∀ i acc H, Pv i acc H → SqT K H a xs)
    (hs : ∀ i x acc H, i < xs.length → xs[i]? = some x → Pv i acc H → te (some x :: rest) H (CompN xs.length i D acc Pv))
    (hd : ∀ acc H, Pv xs.length acc H → Q (.ref D) H) : CompW (Itt K a) D te rest Q H1 := by
  refine comp_go xs.length Pv h0 (fun i acc H hi p => ⟨xs, xs[i], hl i acc H p, by simp [hi]⟩) (fun i x acc H H' hi p y => ?_) fun acc H p => ⟨⟨xs, hl _ acc H p, Nat.le_refl _⟩, hd acc H p⟩
  obtain ⟨e, y⟩ := y
  subst e
  exact hs i x acc _ hi (y xs (hl i acc _ p)) p
theorem comp_range {n : Nat} {D : Addr} {te : TE} {rest : L2.St} {Q : VK} {H1 : Hp} (Pv : Nat → List V → Hp → Prop) (h0 : Pv 0 [] (upd H1 D (.lst [])))
    (hs : ∀ (i : Nat) acc H, i < n → Pv i acc H → te (some (.int (0 + (i : Int))) :: rest) H (CompN n i D acc Pv))
    (hd : ∀ acc H, Pv n acc H → Q (.ref D) H) : CompW (Itr 0 n) D te rest Q H1 := by
  refine comp_go n Pv h0 (fun i acc H hi p => hi) (fun i x acc H H' hi p y => ?_) fun acc H p => ⟨Nat.le_refl _, hd acc H p⟩
  obtain ⟨e, y⟩ := y
  subst e y
  exact hs i acc _ hi p
end L2
set_option Elab.async false
set_option linter.all false
set_option maxRecDepth 100000
set_option maxHeartbeats 1000000
namespace Tk
open PySem PySem.Spec PyProof.Rows L2
inductive KT where
  | lf (k : Key)
  | tp (ts : List KT)
noncomputable instance : DecidableEq KT := Classical.typeDecidableEq KT
mutual
def KT.depth : KT → Nat
  | .lf _ => 0
  | .tp ts => KTs.depth ts + 1
def KTs.depth : List KT → Nat
  | [] => 0
  | t :: ts => max (KT.depth t) (KTs.depth ts)
end
theorem depth_memK : ∀ {ts : List KT} {t : KT}, t ∈ ts → t.depth ≤ KTs.depth ts
  | a :: ts, t, h => by
    unfold KTs.depth
    rcases List.mem_cons.mp h with rfl | h
    · omega
    · have := depth_memK h
      omega
mutual
def KAt (h : Heap) : Value → KT → Prop
  | v, .lf k => keyIs k v = true
  | v, .tp ts => ∃ a o items n, v = .ref a ∧ h.get? a = some o ∧ o.cls = .type "tuple" ∧ o.data = .seq items n ∧ KsAt h items.toList ts
def KsAt (h : Heap) : List Value → List KT → Prop
  | vs, [] => vs = []
  | vs, t :: ts => ∃ v r, vs = v :: r ∧ KAt h v t ∧ KsAt h r ts
end
mutual
theorem KAt.keep {h h' : Heap} (k : ∀ a o items n, h.get? a = some o → o.data = .seq items n → h'.get? a = some o) : ∀ {v : Value} {t : KT}, KAt h v t → KAt h' v t
  | v, .lf k, x => by unfold KAt at x ⊢; exact x
  | v, .tp ts, x => by
    unfold KAt at x ⊢
    obtain ⟨a, o, items, n, e, g, c, d, r⟩ := x
    exact ⟨a, o, items, n, e, k a o items n g d, c, d, KsAt.keep k r⟩
theorem KsAt.keep {h h' : Heap} (k : ∀ a o items n, h.get? a = some o → o.data = .seq items n → h'.get? a = some o) : ∀ {vs : List Value} {ts : List KT}, KsAt h vs ts → KsAt h' vs ts
  | vs, [], x => by unfold KsAt at x ⊢; exact x
  | vs, t :: ts, x => by
    unfold KsAt at x ⊢
    obtain ⟨v, r, e, x1, x2⟩ := x
    exact ⟨v, r, e, KAt.keep k x1, KsAt.keep k x2⟩
end
mutual
theorem KAt.det {h : Heap} : ∀ {v : Value} {t u : KT}, KAt h v t → KAt h v u → t = u
  | v, .lf k, .lf j, x, y => by
    unfold KAt at x y
    rcases keyIs_shape x with ⟨i, t, rfl, rfl⟩ | ⟨x', t, rfl, rfl⟩
    · rcases keyIs_shape y with ⟨i', t', rfl, e⟩ | ⟨y', t', rfl, e⟩
      · injection e with e1 _
        rw [e1]
      · cases e
    · rcases keyIs_shape y with ⟨i', t', rfl, e⟩ | ⟨y', t', rfl, e⟩
      · cases e
      · injection e with e1 _
        rw [e1]
  | v, .lf k, .tp us, x, y => by
    unfold KAt at x y
    obtain ⟨a, o, items, n, rfl, _⟩ := y
    rcases keyIs_shape x with ⟨i, t, rfl, e⟩ | ⟨x', t, rfl, e⟩ <;> cases e
  | v, .tp ts, .lf k, x, y => by
    unfold KAt at x y
    obtain ⟨a, o, items, n, rfl, _⟩ := x
    rcases keyIs_shape y with ⟨i, t, rfl, e⟩ | ⟨x', t, rfl, e⟩ <;> cases e
  | v, .tp ts, .tp us, x, y => by
    unfold KAt at x y
    obtain ⟨a, o, items, n, rfl, g, c, d, r⟩ := x
    obtain ⟨a', o', items', n', e, g', c', d', r'⟩ := y
    injection e with e
    subst e
    rw [g] at g'
    cases g'
    rw [d] at d'
    injection d' with d1 _
    subst d1
    rw [KsAt.det r r']
theorem KsAt.det {h : Heap} : ∀ {vs : List Value} {ts us : List KT}, KsAt h vs ts → KsAt h vs us → ts = us
  | vs, [], [], _, _ => rfl
  | vs, [], u :: us, x, y => by
    unfold KsAt at x y
    obtain ⟨v, r, e, _⟩ := y
    rw [x] at e
    cases e
  | vs, t :: ts, [], x, y => by
    unfold KsAt at x y
    obtain ⟨v, r, e, _⟩ := x
    rw [y] at e
    cases e
  | vs, t :: ts, u :: us, x, y => by
    unfold KsAt at x y
    obtain ⟨v, r, rfl, x1, x2⟩ := x
    obtain ⟨v', r', e, y1, y2⟩ := y
    cases e
    rw [KAt.det x1 y1, KsAt.det x2 y2]
end
theorem KsAt.len {h : Heap} : ∀ {vs : List Value} {ts : List KT}, KsAt h vs ts → vs.length = ts.length
  | vs, [], x => by unfold KsAt at x; rw [x]; rfl
  | vs, t :: ts, x => by
    unfold KsAt at x
    obtain ⟨v, r, rfl, _, x2⟩ := x
    rw [List.length_cons, List.length_cons, KsAt.len x2]
theorem KsAt.get {h : Heap} : ∀ {vs : List Value} {ts : List KT} {j : Nat} {v : Value}, KsAt h vs ts → vs[j]? = some v → ∃ t, ts[j]? = some t ∧ KAt h v t
  | vs, [], j, v, x, e => by
    unfold KsAt at x
    rw [x] at e
    cases e
  | vs, t :: ts, 0, v, x, e => by
    unfold KsAt at x
    obtain ⟨v', r, rfl, x1, _⟩ := x
    cases e
    exact ⟨t, rfl, x1⟩
  | vs, t :: ts, j + 1, v, x, e => by
    unfold KsAt at x
    obtain ⟨v', r, rfl, _, x2⟩ := x
    exact KsAt.get (j := j) x2 e
section
variable (prog : Program) (w : World)
mutual
def KT.hash : KT → Int
  | .lf k => (mixKind prog w).hash k
  | .tp ts => reduceHash (Builtin.Tuple.tupleHashOf (KTs.hash ts))
def KTs.hash : List KT → List Int
  | [] => []
  | t :: ts => KT.hash t :: KTs.hash ts
end
end
mutual
def KT.draws : KT → Nat
  | .lf _ => 1
  | .tp ts => KTs.draws ts + 1
def KTs.draws : List KT → Nat
  | [] => 0
  | t :: ts => KT.draws t + KTs.draws ts
end
theorem hash_app (prog : Program) (w : World) : ∀ (a b : List KT), KTs.hash prog w (a ++ b) = KTs.hash prog w a ++ KTs.hash prog w b
  | [], b => by simp [KTs.hash]
  | t :: a, b => by simp [KTs.hash, hash_app prog w a b]
theorem draws_app : ∀ (a b : List KT), KTs.draws (a ++ b) = KTs.draws a + KTs.draws b
  | [], b => by simp [KTs.draws]
  | t :: a, b => by simp [KTs.draws, draws_app a b, Nat.add_assoc]
section
variable {prog : Program} {w : World}
theorem hash_at : ∀ (n : Nat) {A : Around} {E : Value → Shared → Prop} {s : Shared} {t : KT} {v : Value} {Q : Int → Shared → Prop}, t.depth ≤ n → A.units + n < cLine → KAt s.heap v t → Q (t.hash prog w) { s with toks := s.toks + t.draws } → wpAny (model prog w) A (pyHash v) Q E s := by
  intro n
  induction n with
  | zero =>
    intro A E s t v Q hd hu hk h
    cases t with
    | tp ts => simp [KT.depth] at hd
    | lf k =>
      unfold KAt at hk
      simp only [KT.hash, KT.draws] at h
      exact (mixKind prog w).pyHash hk h
  | succ n ih =>
    intro A E s t v Q hd hu hk h
    cases t with
    | lf k =>
      unfold KAt at hk
      simp only [KT.hash, KT.draws] at h
      exact (mixKind prog w).pyHash hk h
    | tp ts =>
      unfold KAt at hk
      obtain ⟨a, o, items, m, rfl, g, c, d, r⟩ := hk
      have ty : s.TypeIs (.ref a) "tuple" := ⟨o, g, c⟩
      have hd' : KTs.depth ts ≤ n := by
        unfold KT.depth at hd
        omega
      simp only [KT.hash, KT.draws] at h
      unfold pyHash
      unfold pyHashByItsType
      refine wpAny_bind (wpAny_cRoomFor_or (.inr (by omega)) (wpAny_bind (wpAny_specialOf ty F.slot_tuple_hash.lookup ?_)))
      show wpAny _ _ (if (some (Value.builtin "tuple.__hash__") == some Value.none) = true then _ else _) _ _ _
      rw [if_neg (fun z => by rw [beq_builtin_none] at z; cases z)]
      refine wpAny_bind (wpAny_specialOf ty F.slot_tuple_hash.lookup ?_)
      show wpAny _ _ (do let y ← callSpecialIfBoundUnlessNone? (.ref a) "__hash__" _; _) _ _ _
      refine wpAny_bind (wpAny_callSpecialIfBoundUnlessNone?_slot ty F.slot_tuple_hash (wpAny_call_entry F.slot_tuple_hash ty F.entry_tuple_hash ?_ (F.args_tuple_hash_1 _)))
      show wpAny _ _ (do let y ← Builtin.Tuple.tupleItemsOf (.ref a); _) _ _ _
      refine wpAny_bind (wpAny_tupleItemsOf g d (wpAny_bind ?_))
      rw [← Array.forIn_toList]
      refine wpAny_forIn_list _ (fun rest (b : Array Int) s' => ∃ done left, ts = done ++ left ∧ KsAt s.heap rest left ∧ b.toList = KTs.hash prog w done ∧ s' = { s with toks := s.toks + KTs.draws done }) _ ?_ ?_ _ _ ⟨[], ts, rfl, r, rfl, by simp [KTs.draws]⟩
      · rintro x rest b s' ⟨done, left, rfl, hl, hb, rfl⟩
        cases left with
        | nil =>
          unfold KsAt at hl
          cases hl
        | cons t left =>
          unfold KsAt at hl
          obtain ⟨v, rr, e, h1, h2⟩ := hl
          cases e
          have dt : t.depth ≤ n := by
            have := depth_memK (show t ∈ done ++ t :: left by simp)
            omega
          refine wpAny_bind (ih (s := { s with toks := s.toks + KTs.draws done }) dt (by first | (show A.units + 1 + n < cLine; omega) | (show A.units + n < cLine; omega)) h1 ?_)
          have fin : ∃ done' left', done ++ t :: left = done' ++ left' ∧ KsAt s.heap rest left' ∧ (b.push (KT.hash prog w t)).toList = KTs.hash prog w done' ∧ ({ s with toks := s.toks + KTs.draws done + t.draws } : Shared) = { s with toks := s.toks + KTs.draws done' } := by
            refine ⟨done ++ [t], left, by simp, h2, by rw [hash_app, Array.toList_push, hb]; simp [KTs.hash], ?_⟩
            rw [draws_app]
            simp [KTs.draws, Nat.add_assoc]
          first
            | exact wpAny_pure fin
            | exact wpAny_bind (wpAny_pure (wpAny_pure fin))
      · rintro b s' ⟨done, left, rfl, hl, hb, rfl⟩
        cases left with
        | cons t left =>
          unfold KsAt at hl
          obtain ⟨v, rr, e, _⟩ := hl
          cases e
        | nil =>
          rw [List.append_nil] at h
          show wpAny _ _ (retInt (Builtin.Tuple.tupleHashOf b.toList)) _ _ _
          rw [hb]
          refine wpAny_ret_mkInt ?_
          show wpAny _ _ (if (decide (-(2 : Int) ^ 63 ≤ Builtin.Tuple.tupleHashOf (KTs.hash prog w done)) && decide (Builtin.Tuple.tupleHashOf (KTs.hash prog w done) < 2 ^ 63)) = true then _ else _) _ _ _
          unfold reduceHash at h
          by_cases hr : (decide (-(2 : Int) ^ 63 ≤ Builtin.Tuple.tupleHashOf (KTs.hash prog w done)) && decide (Builtin.Tuple.tupleHashOf (KTs.hash prog w done) < 2 ^ 63)) = true
          · rw [if_pos hr] at h ⊢
            exact wpAny_pure (by simpa [Nat.add_assoc] using h)
          · rw [if_neg hr] at h ⊢
            exact wpAny_bind (wpAny_rule (wpAny_pure (by simpa [Nat.add_assoc] using h)))
end
end Tk
set_option Elab.async false
set_option linter.all false
set_option maxRecDepth 100000
set_option maxHeartbeats 1000000
namespace Tk
open PySem PySem.Spec PyProof.Rows L2
theorem all_get {ts us : List KT} : ((List.range (min ts.length us.length)).all (fun j => decide (ts[j]? = us[j]?)) && ts.length == us.length) = decide (ts = us) := by
  by_cases h : ts = us
  · subst h
    simp
  · rw [decide_eq_false h]
    by_cases hl : ts.length = us.length
    · have : ∃ j, j < ts.length ∧ ts[j]? ≠ us[j]? := by
        refine Classical.byContradiction fun n => h (List.ext_getElem? fun j => ?_)
        by_cases hj : j < ts.length
        · exact Classical.byContradiction fun z => n ⟨j, hj, z⟩
        · rw [List.getElem?_eq_none (by omega), List.getElem?_eq_none (by omega)]
      obtain ⟨j, hj, ne⟩ := this
      rw [Bool.and_eq_false_iff]
      left
      refine List.all_eq_false.mpr ⟨j, List.mem_range.mpr (by omega), ?_⟩
      simp [ne]
    · rw [Bool.and_eq_false_iff]
      right
      simp [hl]
theorem eq_at : ∀ (n : Nat) {A : Around} {s : Shared} {t u : KT} {a b : Value}, t.depth ≤ n → A.units + n + 1 < cLine → KAt s.heap a t → KAt s.heap b u → SeqAt.EqAt A s a b (decide (t = u)) := by
  intro n
  induction n with
  | zero =>
    intro A s t u a b hd hu h1 h2
    cases t with
    | tp ts => simp [KT.depth] at hd
    | lf k =>
      unfold KAt at h1
      cases u with
      | lf j =>
        unfold KAt at h2
        intro prog w E Q q
        refine (mixKind prog w).eqBool h1 h2 ?_
        have e : decide (k = j) = decide (KT.lf k = KT.lf j) := by simp
        rw [e]
        exact q
      | tp us =>
        unfold KAt at h2
        obtain ⟨r, o, items, m, rfl, g, c, d, _⟩ := h2
        rw [decide_eq_false (by intro z; cases z)]
        rcases keyIs_shape h1 with ⟨i, t, rfl, rfl⟩ | ⟨x, t, rfl, rfl⟩
        · exact SeqAt.EqAt.int_tuple i t (items := items) ⟨o, g, c, m, d⟩ (by omega)
        · exact SeqAt.EqAt.str_tuple x t (items := items) ⟨o, g, c, m, d⟩ (by omega)
  | succ n ih =>
    intro A s t u a b hd hu h1 h2
    cases t with
    | lf k =>
      unfold KAt at h1
      cases u with
      | lf j =>
        unfold KAt at h2
        intro prog w E Q q
        refine (mixKind prog w).eqBool h1 h2 ?_
        have e : decide (k = j) = decide (KT.lf k = KT.lf j) := by simp
        rw [e]
        exact q
      | tp us =>
        unfold KAt at h2
        obtain ⟨r, o, items, m, rfl, g, c, d, _⟩ := h2
        rw [decide_eq_false (by intro z; cases z)]
        rcases keyIs_shape h1 with ⟨i, t, rfl, rfl⟩ | ⟨x, t, rfl, rfl⟩
        · exact SeqAt.EqAt.int_tuple i t (items := items) ⟨o, g, c, m, d⟩ (by omega)
        · exact SeqAt.EqAt.str_tuple x t (items := items) ⟨o, g, c, m, d⟩ (by omega)
    | tp ts =>
      have h1' := h1
      have h2' := h2
      unfold KAt at h1
      obtain ⟨r, o, items, m, rfl, g, c, d, k1⟩ := h1
      cases u with
      | lf j =>
        unfold KAt at h2
        rw [decide_eq_false (by intro z; cases z)]
        rcases keyIs_shape h2 with ⟨i, t, rfl, rfl⟩ | ⟨x, t, rfl, rfl⟩
        · exact SeqAt.EqAt.tuple_int i t (items := items) ⟨o, g, c, m, d⟩ (by omega)
        · exact SeqAt.EqAt.tuple_str x t (items := items) ⟨o, g, c, m, d⟩ (by omega)
      | tp us =>
        unfold KAt at h2
        obtain ⟨r', o', items', m', rfl, g', c', d', k2⟩ := h2
        by_cases z : r = r'
        · subst z
          rw [decide_eq_true (KAt.det h1' h2')]
          exact SeqAt.EqAt.same _
        · have hd' : KTs.depth ts ≤ n := by
            unfold KT.depth at hd
            omega
          have l1 := k1.len
          have l2 := k2.len
          have := SeqAt.RcAt.tuples (A := A) (e := fun j => decide (ts[j]? = us[j]?)) (show s.heap.IsTuple r items from ⟨o, g, c, m, d⟩) (show s.heap.IsTuple r' items' from ⟨o', g', c', m', d'⟩) (by omega) fun j g1 g2 => by
            obtain ⟨t1, e1, a1⟩ := k1.get (j := j) (v := items[j]) (by rw [Array.getElem?_toList]; simp [g1])
            obtain ⟨t2, e2, a2⟩ := k2.get (j := j) (v := items'[j]) (by rw [Array.getElem?_toList]; simp [g2])
            have e : decide (ts[j]? = us[j]?) = decide (t1 = t2) := by rw [e1, e2]; simp
            rw [e]
            refine ih (A := A.in1) ?_ (by show A.units + 1 + n + 1 < cLine; omega) a1 a2
            have := depth_memK (List.mem_of_getElem? e1)
            omega
          have hs1 : items.size = ts.length := by rw [← l1, Array.length_toList]
          have hs2 : items'.size = us.length := by rw [← l2, Array.length_toList]
          rw [hs1, hs2, all_get] at this
          have e : decide (KT.tp ts = KT.tp us) = decide (ts = us) := by simp
          rw [e]
          exact SeqAt.EqAt.of_refs z this
theorem quiet_at : ∀ (n : Nat) {prog : Program} {w : World} {A : Around} {E : Value → Shared → Prop} {s : Shared} {t : KT} {v : Value} {Q : Bool → Shared → Prop}, KAt s.heap v t → t.depth ≤ n → Q true s → wpAny (model prog w) A (eqIsQuiet n v) Q E s := by
  have leaf : ∀ (n : Nat) {prog : Program} {w : World} {A : Around} {E : Value → Shared → Prop} {s : Shared} {k : Key} {v : Value} {Q : Bool → Shared → Prop}, keyIs k v = true → Q true s → wpAny (model prog w) A (eqIsQuiet n v) Q E s := by
    intro n prog w A E s k v Q h q
    rw [eqIsQuiet_byValue _ ((mixKind prog w).byValue k v h)]
    exact wpAny_pure q
  intro n
  induction n with
  | zero =>
    intro prog w A E s t v Q h hd q
    cases t with
    | tp ts => simp [KT.depth] at hd
    | lf k =>
      unfold KAt at h
      exact leaf 0 h q
  | succ n ih =>
    intro prog w A E s t v Q h hd q
    cases t with
    | lf k =>
      unfold KAt at h
      exact leaf _ h q
    | tp ts =>
      unfold KAt at h
      obtain ⟨a, o, items, m, rfl, g, c, d, r⟩ := h
      have ty : s.TypeIs (.ref a) "tuple" := ⟨o, g, c⟩
      have hd' : KTs.depth ts ≤ n := by
        unfold KT.depth at hd
        omega
      unfold eqIsQuiet
      refine wpAny_bind (wpAny_specialOf ty F.slot_tuple_eq.lookup ?_)
      show wpAny _ _ (do let y ← isInstance (.ref a) (.type "tuple"); _) _ _ _
      refine wpAny_bind (wpAny_isInstance ty isSubtype_tuple_tuple ?_)
      simp only [Bool.not_true, if_false, Bool.false_eq_true]
      refine wpAny_bind (wpAny_seqItems g d (wpAny_bind ?_))
      show wpAny _ _ (forIn items _ _) _ _ _
      rw [← Array.forIn_toList]
      refine wpAny_forIn_list _ (fun rest b s' => b.1 = none ∧ s' = s ∧ ∃ left, KsAt s.heap rest left ∧ KTs.depth left ≤ n) _ ?_ ?_ _ _ ⟨rfl, rfl, ts, r, hd'⟩
      · rintro x rest b s' ⟨hb, rfl, left, hl, hd2⟩
        cases left with
        | nil =>
          unfold KsAt at hl
          cases hl
        | cons t left =>
          unfold KsAt at hl
          obtain ⟨v, rr, e, h1, h2⟩ := hl
          cases e
          unfold KTs.depth at hd2
          refine wpAny_bind (ih h1 (by omega) ?_)
          simp only [Bool.not_true, if_false, Bool.false_eq_true]
          exact wpAny_pure ⟨rfl, rfl, left, h2, by omega⟩
      · rintro ⟨b1, b2⟩ s' ⟨hb, rfl, _⟩
        simp only at hb
        subst hb
        exact wpAny_pure q
noncomputable def treeKind (prog : Program) (w : World) : HeapKind prog w (List KT) where
  is := fun h ts a => KAt h (.ref a) (.tp ts) ∧ (KT.tp ts).depth ≤ 8
  hash := fun ts => (KT.tp ts).hash prog w
  draws := fun ts => (KT.tp ts).draws
  room := fun A => A.units + 20 < cLine
  inj := fun x y => by
    have := KAt.det x.1 y.1
    injection this
  keeps := fun {h h' k a d o es ep} x g hd sb => ⟨x.1.keep fun b ob items n e dt => by
    have ne : b ≠ d := fun z => by
      subst z
      rw [g] at e
      cases e
      rw [hd] at dt
      cases dt
    exact (sb.2 b ne).trans e, x.2⟩
  pyHash := fun hu x q => hash_at 8 x.2 (by omega) x.1 q
  eqBool := fun {A E s x y a b Q} hu hx hy q => by
    refine eq_at 8 (t := .tp x) (u := .tp y) hx.2 (by omega) hx.1 hy.1 prog w E Q ?_
    have e : decide (KT.tp x = KT.tp y) = decide (x = y) := by simp
    rw [e]
    exact q
  quiet := fun x q => quiet_at 8 x.1 x.2 q
end Tk
set_option Elab.async false
set_option linter.all false
set_option maxRecDepth 100000
set_option maxHeartbeats 1000000
namespace Dj
open PySem PySem.Spec PyProof.Rows L2 Tre
def SqX (K : PySem.W.Frag) (H : Hp) (a : Addr) (xs : List V) : Prop :=
  H a = some (.tup xs) ∨ ∃ (o : Obj) (its : Array Value) (n : Nat), K.lookup a = some o ∧ o.cls = .type "tuple" ∧ o.data = .seq its n ∧ its.size ≤ sizeLine ∧ Vals xs its.toList
theorem SqX.sq {K : PySem.W.Frag} {H : Hp} {a : Addr} {xs : List V} (h : SqX K H a xs) : SqT K H a xs := h.elim (fun e => .inl (.inl e)) .inr
theorem SqX.mono {K : PySem.W.Frag} {H H' : Hp} {a : Addr} {xs : List V} (d : Kd H H') (h : SqX K H a xs) : SqX K H' a xs := h.elim (fun e => .inl (d.tup _ _ e)) .inr
mutual
def KVt (K : PySem.W.Frag) (H : Hp) : V → Tk.KT → Prop
  | v, .lf (.inl i) => v = .int i
  | v, .lf (.inr x) => v = .str x
  | v, .tp ts => ∃ r vs, v = .ref r ∧ SqX K H r vs ∧ KVts K H vs ts
def KVts (K : PySem.W.Frag) (H : Hp) : List V → List Tk.KT → Prop
  | vs, [] => vs = []
  | vs, t :: ts => ∃ v r, vs = v :: r ∧ KVt K H v t ∧ KVts K H r ts
end
section
variable {P : Program} {w : World} {K : PySem.W.Frag} {H H' : Hp} {h : Heap}
mutual
theorem KVt.mono (d : Kd H H') : ∀ {v : V} {t : Tk.KT}, KVt K H v t → KVt K H' v t
  | v, .lf (.inl i), a => by unfold KVt at a ⊢; exact a
  | v, .lf (.inr x), a => by unfold KVt at a ⊢; exact a
  | v, .tp ts, a => by
    unfold KVt at a ⊢
    obtain ⟨r, vs, e, s, q⟩ := a
    exact ⟨r, vs, e, s.mono d, KVts.mono d q⟩
theorem KVts.mono (d : Kd H H') : ∀ {vs : List V} {ts : List Tk.KT}, KVts K H vs ts → KVts K H' vs ts
  | vs, [], a => by unfold KVts at a ⊢; exact a
  | vs, t :: ts, a => by
    unfold KVts at a ⊢
    obtain ⟨v, r, e, a1, a2⟩ := a
    exact ⟨v, r, e, KVt.mono d a1, KVts.mono d a2⟩
end
theorem sqx_at (ok : HOk P w H h) (kin : K.In h) {q : Addr} {vs : List V} (e : SqX K H q vs) : ∃ its : List Value, Vals vs its ∧ ∃ o n, h.get? q = some o ∧ o.cls = .type "tuple" ∧ o.data = .seq its.toArray n := by
  rcases e with e | ⟨o, its, n, hk, hc, hs, hz, r⟩
  · obtain ⟨_, its, rv, o, h1, h2, n, h3⟩ := (show ObjOk P w H h q (.tup vs) from ok q _ e)
    exact ⟨its, rv, o, n, h1, h2, h3⟩
  · exact ⟨its.toList, r, o, n, kin q o hk, hc, by simpa using hs⟩
mutual
theorem kat_of (ok : HOk P w H h) (kin : K.In h) : ∀ {v : V} {t : Tk.KT} {u : Value}, KVt K H v t → RelV v u → Tk.KAt h u t
  | v, .lf (.inl i), u, a, r => by
    unfold KVt at a
    subst a
    obtain ⟨t, rfl⟩ := r
    simp only [Tk.KAt]
    exact keyIs_int i t
  | v, .lf (.inr x), u, a, r => by
    unfold KVt at a
    subst a
    obtain ⟨t, rfl⟩ := r
    simp only [Tk.KAt]
    exact keyIs_str x t
  | v, .tp ts, u, a, r => by
    unfold KVt at a
    obtain ⟨q, vs, rfl, e, as⟩ := a
    obtain rfl : u = Value.ref q := r
    obtain ⟨its, rv, o, n, h1, h2, h3⟩ := sqx_at ok kin e
    simp only [Tk.KAt]
    exact ⟨q, o, its.toArray, n, rfl, h1, h2, h3, by simpa using kats_of ok kin as rv⟩
theorem kats_of (ok : HOk P w H h) (kin : K.In h) : ∀ {vs : List V} {ts : List Tk.KT} {us : List Value}, KVts K H vs ts → Vals vs us → Tk.KsAt h us ts
  | vs, [], us, a, r => by
    unfold KVts at a
    subst a
    cases r
    simp [Tk.KsAt]
  | vs, t :: ts, us, a, r => by
    unfold KVts at a
    obtain ⟨v, q, rfl, a1, a2⟩ := a
    cases r with
    | cons r1 r2 =>
      simp only [Tk.KsAt]
      exact ⟨_, _, rfl, kat_of ok kin a1 r1, kats_of ok kin a2 r2⟩
end
end
def KeyAt (K : PySem.W.Frag) (H : Hp) (k : List Tk.KT) (b : Addr) : Prop := ∃ vs, SqX K H b vs ∧ KVts K H vs k ∧ (Tk.KT.tp k).depth ≤ 8
theorem KeyAt.mono {K : PySem.W.Frag} {H H' : Hp} {k : List Tk.KT} {b : Addr} (d : Kd H H') (h : KeyAt K H k b) : KeyAt K H' k b := by
  obtain ⟨ts, h1, h2, h3⟩ := h
  exact ⟨ts, h1.mono d, h2.mono d, h3⟩
theorem KeyAt.is {P : Program} {w : World} {K : PySem.W.Frag} {H : Hp} {h : Heap} {k : List Tk.KT} {b : Addr} (ok : HOk P w H h) (kin : K.In h) (x : KeyAt K H k b) : (Tk.treeKind P w).is h k b := by
  obtain ⟨vs, h1, h2, h4⟩ := x
  have := kat_of ok kin (v := .ref b) (t := .tp k) (u := .ref b) (by unfold KVt; exact ⟨b, vs, rfl, h1, h2⟩) rfl
  exact ⟨this, h4⟩
abbrev Ent := List Tk.KT × Addr × V
abbrev RE : List Ent → List (List Tk.KT × Addr × Value) → Prop := Paired fun p q => p.1 = q.1 ∧ p.2.1 = q.2.1 ∧ RelV p.2.2 q.2.2
noncomputable def dJ (P : Program) (w : World) (a : Addr) (kvs : List Ent) : HO := .ext fun h => kvs.length ≤ sizeLine ∧ (a == sysModules) = false ∧
  ∃ xs : List (List Tk.KT × Addr × Value), RE kvs xs ∧ ∃ o es ep, h.get? a = some o ∧ o.ExactDict ∧ o.data = .dict es ep ∧ es.toList = xs.map (entryOfKey (Tk.treeKind P w)) ∧ (xs.map (·.1)).Nodup
structure DJ (P : Program) (w : World) (K : PySem.W.Frag) (H : Hp) (a : Addr) (kvs : List Ent) : Prop where
  at_ : H a = some (dJ P w a kvs)
  keys : ∀ p ∈ kvs, KeyAt K H p.1 p.2.1
noncomputable def valJ (kvs : List Ent) (k : List Tk.KT) : Option V := (kvs.find? fun p => decide (p.1 = k)).map (·.2.2)
noncomputable def putJ (kvs : List Ent) (k : List Tk.KT) (b : Addr) (v : V) : List Ent :=
  if (valJ kvs k).isSome then kvs.map (fun p => if p.1 = k then (p.1, p.2.1, v) else p) else kvs ++ [(k, b, v)]
theorem valJ_pos {p : Ent} {r : List Ent} {k : List Tk.KT} (e : p.1 = k) : valJ (p :: r) k = some p.2.2 := by simp [valJ, List.find?_cons, e]
theorem valJ_neg {p : Ent} {r : List Ent} {k : List Tk.KT} (e : ¬ p.1 = k) : valJ (p :: r) k = valJ r k := by simp [valJ, List.find?_cons, e]
theorem length_putJ (kvs : List Ent) (k : List Tk.KT) (b : Addr) (v : V) : (putJ kvs k b v).length ≤ kvs.length + 1 := by
  unfold putJ
  split
  · rw [List.length_map]; omega
  · rw [List.length_append, List.length_cons, List.length_nil]; omega
theorem RE.val {kvs : List Ent} {xs : List (List Tk.KT × Addr × Value)} (r : RE kvs xs) (k : List Tk.KT) : RelO (valJ kvs k) ((atKey xs k).map (·.2)) := by
  induction r with
  | nil => exact True.intro
  | @cons p q ps qs h t ih =>
    obtain ⟨h1, _, h2⟩ := h
    by_cases e : p.1 = k
    · have e' : q.1 = k := h1.symm.trans e
      have b : atKey (q :: qs) k = some q.2 := by simp [atKey, List.find?_cons, e']
      rw [valJ_pos e, b]; exact h2
    · have e' : ¬ q.1 = k := fun z => e (h1.trans z)
      have b : atKey (q :: qs) k = atKey qs k := by simp [atKey, List.find?_cons, e']
      rw [valJ_neg e, b]; exact ih
theorem RE.repl {kvs : List Ent} {xs : List (List Tk.KT × Addr × Value)} (r : RE kvs xs) (k : List Tk.KT) {y : V} {u : Value} (ry : RelV y u) :
    RE (kvs.map fun p => if p.1 = k then (p.1, p.2.1, y) else p) (xs.map (putAt k u)) := by
  induction r with
  | nil => exact .nil
  | @cons p q ps qs h t ih =>
    rw [List.map_cons, List.map_cons]
    refine .cons ?_ ih
    obtain ⟨h1, h2, h3⟩ := h
    unfold putAt
    by_cases e : p.1 = k
    · rw [if_pos e, if_pos (h1.symm.trans e)]; exact ⟨h1, h2, ry⟩
    · rw [if_neg e, if_neg (fun z => e (h1.trans z))]; exact ⟨h1, h2, h3⟩
theorem RE.put {kvs : List Ent} {xs : List (List Tk.KT × Addr × Value)} (r : RE kvs xs) (k : List Tk.KT) {b : Addr} {y : V} {u : Value} (ry : RelV y u) : RE (putJ kvs k b y) (storedH xs k b u) := by
  have e : (valJ kvs k).isSome = (atKey xs k).isSome := by
    rw [(r.val k).isSome_eq, Option.isSome_map]
  unfold putJ storedH
  rw [e]
  by_cases q : (atKey xs k).isSome = true
  · rw [if_pos q, if_pos q]; exact r.repl k ry
  · rw [if_neg q, if_neg q]; exact Paired.snoc r ⟨rfl, rfl, ry⟩
theorem putJ_mem {kvs : List Ent} {k : List Tk.KT} {b : Addr} {v : V} {p : Ent} (h : p ∈ putJ kvs k b v) : (∃ q ∈ kvs, p.1 = q.1 ∧ p.2.1 = q.2.1) ∨ (p.1 = k ∧ p.2.1 = b) := by
  unfold putJ at h
  split at h
  · obtain ⟨q, m, e⟩ := List.mem_map.mp h
    split at e
    · subst e; exact .inl ⟨q, m, rfl, rfl⟩
    · subst e; exact .inl ⟨q, m, rfl, rfl⟩
  · rcases List.mem_append.mp h with m | m
    · exact .inl ⟨p, m, rfl, rfl⟩
    · rw [List.mem_singleton.mp m]; exact .inr ⟨rfl, rfl⟩
theorem Kd.updJ {P : Program} {w : World} {H : Hp} {a : Addr} {kvs : List Ent} {o : HO} (h : H a = some (dJ P w a kvs)) : Kd H (upd H a o) := by
  refine ⟨fun b zs e => ?_, fun b zs e => ⟨zs, ?_⟩⟩
  · rw [upd_ne (fun z => by rw [z, h] at e; cases e)]; exact e
  · rw [upd_ne (fun z => by rw [z, h] at e; cases e)]; exact e
theorem Kd.updK {H : Hp} {a : Addr} {kvs : List (Key × V)} {o : HO} (h : H a = some (.dK kvs)) : Kd H (upd H a o) := by
  refine ⟨fun b zs e => ?_, fun b zs e => ⟨zs, ?_⟩⟩
  · rw [upd_ne (fun z => by rw [z, h] at e; cases e)]; exact e
  · rw [upd_ne (fun z => by rw [z, h] at e; cases e)]; exact e
theorem DJ.put {P : Program} {w : World} {K : PySem.W.Frag} {H : Hp} {a b : Addr} {kvs : List Ent} {k : List Tk.KT} {v : V} (d : DJ P w K H a kvs) (hk : KeyAt K H k b) : DJ P w K (upd H a (dJ P w a (putJ kvs k b v))) a (putJ kvs k b v) := by
  refine ⟨upd_same, fun p m => ?_⟩
  refine KeyAt.mono (Kd.updJ d.at_) ?_
  rcases putJ_mem m with ⟨q, mq, e1, e2⟩ | ⟨e1, e2⟩
  · rw [e1, e2]; exact d.keys q mq
  · rw [e1, e2]; exact hk
theorem DJ.kd {P : Program} {w : World} {K : PySem.W.Frag} {H H' : Hp} {a : Addr} {kvs : List Ent} (d : DJ P w K H a kvs) (k : Kd H H') (e : H' a = some (dJ P w a kvs)) : DJ P w K H' a kvs := ⟨e, fun p m => (d.keys p m).mono k⟩
section
variable {P : Program} {w : World} {H : Hp} {h : Heap} {a : Addr}
theorem dj_of {K : PySem.W.Frag} {kvs : List Ent} (ok : HOk P w H h) (kin : K.In h) (d : DJ P w K H a kvs) : kvs.length ≤ sizeLine ∧ (a == sysModules) = false ∧ ∃ xs, RE kvs xs ∧ h.DictOfH (Tk.treeKind P w) a xs := by
  obtain ⟨⟨z, y, xs, r, o, es, ep, h1, h2, h3, h4, h5⟩, _⟩ := (show ObjOk P w H h a (dJ P w a kvs) from ok a _ d.at_)
  refine ⟨z, y, xs, r, o, es, ep, h1, h2, h3, h4, ?_, h5⟩
  have all : ∀ {l : List Ent} {m : List (List Tk.KT × Addr × Value)}, RE l m → (∀ p ∈ l, KeyAt K H p.1 p.2.1) → ∀ x ∈ m, (Tk.treeKind P w).is h x.1 x.2.1 := by
    intro l m q
    induction q with
    | nil => intro _ x hx; exact nomatch hx
    | @cons p q ps qs hq t ih =>
      intro kp x hx
      rcases List.mem_cons.mp hx with e | hx
      · subst e
        rw [← hq.1, ← hq.2.1]
        exact (kp p List.mem_cons_self).is ok kin
      · exact ih (fun p m => kp p (List.mem_cons_of_mem _ m)) x hx
  exact all r d.keys
theorem dj_new {kvs : List Ent} {xs : List (List Tk.KT × Addr × Value)} {H' : Hp} {h' : Heap} (z : kvs.length ≤ sizeLine) (y : (a == sysModules) = false) (r : RE kvs xs)
    (d : ∃ o es ep, h'.get? a = some o ∧ o.ExactDict ∧ o.data = .dict es ep ∧ es.toList = xs.map (entryOfKey (Tk.treeKind P w)) ∧ (xs.map (·.1)).Nodup) : ObjOk P w H' h' a (dJ P w a kvs) := by
  obtain ⟨o, es, ep, h1, h2⟩ := d
  refine ⟨⟨z, y, xs, r, o, es, ep, h1, h2⟩, ⟨o, h1⟩, ?_⟩
  rintro g1 g2 ⟨z, y, xs, r, o, es, ep, h1, h2⟩ st
  exact ⟨z, y, xs, r, o, es, ep, st _ h1, h2⟩
end
noncomputable def tDNewJ (P : Program) (w : World) : TE := fun _ H Q => ∀ p, H p = none → Q (.ref p) (upd H p (dJ P w p []))
noncomputable def sDPutJ (P : Program) (w : World) (K : PySem.W.Frag) (td ty tv : TE) : TS := fun D σ H => tv σ H fun v H1 => td σ H1 fun x H2 => ty σ H2 fun y H3 => ∃ a b k kvs, x = .ref a ∧ y = .ref b ∧ DJ P w K H3 a kvs ∧ KeyAt K H3 k b ∧ kvs.length < sizeLine ∧ D.nx σ (upd H3 a (dJ P w a (putJ kvs k b v)))
section
variable {X : Cx} {pos pos' apos cpos : Pos} {o i e f value : Expr} {td ty tv tx : TE}
theorem dj_empty {P : Program} {w : World} {H : Hp} (h : Heap) (hb : sysModules < h.objs.size) : ObjOk P w H (h.push { cls := .type "dict", data := .dict #[] }) h.objs.size (dJ P w h.objs.size []) :=
  dj_new (Nat.zero_le _) (beq_eq_false_iff_ne.mpr (Ne.symm (Nat.ne_of_lt hb))) .nil ⟨_, #[], 0, Heap.get?_push_size _ rfl, ⟨rfl, rfl, rfl⟩, rfl, rfl, List.nodup_nil⟩
theorem pe_dnewJ : PE X (.Dict [] [] pos) (tDNewJ X.prog X.w) := fun pins s σ H Q I h =>
  wpAny_Dict_empty ⟨.ref s.heap.objs.size, _, I.laid (a := s.heap.objs.size) (o := dJ X.prog X.w s.heap.objs.size []) (t' := s.toks) (fun _ _ q => Heap.get?_push_of_some _ q) (Nat.le_refl _) (dj_empty s.heap I.big), rfl, h _ (I.hok.fresh (Nat.le_refl _))⟩
theorem ps_dputJ (hu : X.A.units + 30 < cLine) (ho : PE X o td) (hi : PE X i ty) (hv : PE X value tv) (hs : swapsWith value (some (.Subscript o i pos')) pos.line X.env = pure false) :
    PS X (.Assign [.Subscript o i pos'] value pos) (sDPutJ X.prog X.w X.K td ty tv) := by
  intro pins s σ H D I h
  refine wpAny_Assign_Subscript (thn (hv pins s σ H _ I h) fun r s1 ⟨v, H1, I1, rv, q1⟩ => thn (ho pins s1 σ H1 _ I1 q1) fun u s2 ⟨x, H2, I2, rx, q2⟩ => thn (hi pins s2 σ H2 _ I2 q2) fun iv s3 ⟨y, H3, I3, ry, a, b, k, kvs, ex, ey, d, kb, hl, q3⟩ => ?_) hs
  subst ex ey
  obtain rfl : u = Value.ref a := rx
  obtain rfl : iv = Value.ref b := ry
  obtain ⟨z, hd, xs, rel, dd⟩ := dj_of I3.hok I3.kIn d
  have hz : xs.length ≤ sizeLine := by rw [← Paired.length rel]; exact z
  have hl2 : (putJ kvs k b v).length ≤ sizeLine := by have := length_putJ kvs k b v; omega
  refine wpAny_setItem_heap (hsz := hz) (by show X.A.units + 1 + 20 < cLine; omega) (kb.is I3.hok I3.kIn) dd fun h' dd' hs => ⟨σ, _, ?_, q3⟩
  obtain ⟨q, es, ep, hq, h2, h3, h4, _, h5⟩ := dd'
  exact d_write I3 (by rw [d.at_]; exact True.intro) hs ⟨q, hq⟩ (dj_new hl2 hd (rel.put k rv) ⟨q, es, ep, hq, h2, h3, h4, h5⟩)
variable {P : Program} {w : World} {K : PySem.W.Frag}
theorem pe_newJ (hP : X.prog = P) (hw : X.w = w) : PE X (.Dict [] [] pos) (tDNewJ P w) := by
  subst hP hw
  exact pe_dnewJ
theorem ps_putJ (hP : X.prog = P) (hw : X.w = w) (hK : X.K = K) (hu : X.A.units + 30 < cLine) (ho : PE X o td) (hi : PE X i ty) (hv : PE X value tv) (hs : swapsWith value (some (.Subscript o i pos')) pos.line X.env = pure false) :
    PS X (.Assign [.Subscript o i pos'] value pos) (sDPutJ P w K td ty tv) := by
  subst hP hw hK
  exact ps_dputJ hu ho hi hv hs
end
end Dj
set_option Elab.async false
set_option linter.all false
set_option maxRecDepth 100000
set_option maxHeartbeats 1000000
namespace Tre
open PySem L2
theorem str_code {x y : Str} (h : x.cps.toList = y.cps.toList) : x = y := by
  cases x
  cases y
  simp only [Str.mk.injEq]
  exact Array.toList_inj.mp h
theorem codes_eq {ts us : List Tr} (h : ∀ t ∈ ts, ∀ u ∈ us, code t = code u → t = u) (e : codes ts = codes us) : ts = us := by
  induction ts generalizing us with
  | nil => cases us with
    | nil => rfl
    | cons u us => simp [codes] at e
  | cons t ts ih =>
    cases us with
    | nil => simp [codes] at e
    | cons u us =>
      simp only [codes, List.cons.injEq] at e
      rw [h t List.mem_cons_self u List.mem_cons_self e.1, ih (fun a ma b mb => h a (List.mem_cons_of_mem _ ma) b (List.mem_cons_of_mem _ mb)) e.2]
theorem nl {x y : String} (h : (Str.ofString x).cps.toList ≠ (Str.ofString y).cps.toList) {r s : List Co} : Co.tup (.str (Str.ofString x).cps.toList :: r) = Co.tup (.str (Str.ofString y).cps.toList :: s) → False := fun e => by
  simp only [Co.tup.injEq, List.cons.injEq, Co.str.injEq] at e
  exact h e.1
theorem ty_eq : ∀ (n : Nat) {k : So} {t u : Tr}, t.depth ≤ n → Ty k t → Ty k u → code t = code u → t = u := by
  intro n
  induction n with
  | zero =>
    intro k t u hd h1 h2
    cases h1 <;> simp [Tr.depth] at hd
  | succ n ih =>
    intro k t u hd h1 h2 e
    have sub : ∀ {ts : List Tr} {t : Tr}, (Tr.tup ts).depth ≤ n + 1 → t ∈ ts → t.depth ≤ n := fun h m => by
      unfold Tr.depth at h
      have := depth_memT m
      omega
    have sub2 : ∀ {ts l : List Tr} {t : Tr}, (Tr.tup ts).depth ≤ n + 1 → Tr.tup l ∈ ts → t ∈ l → t.depth ≤ n := fun h m m2 => by
      have h3 := sub h m
      unfold Tr.depth at h3
      have := depth_memT m2
      omega
    cases h1 <;> cases h2 <;> simp only [code, codes] at e
    all_goals first
      | exact (nl (by decide +kernel) e).elim
      | skip
    all_goals simp only [Co.tup.injEq, List.cons.injEq, Co.str.injEq, Co.num.injEq, and_true, true_and] at e
    · rw [str_code e]
    · rename_i x ts _ h1 y us _ h2
      rw [str_code e.1, codes_eq (fun a ma b mb => ih (sub2 hd (by simp) ma) (h1 a ma) (h2 b mb)) e.2]
    · rw [e.1, e.2]
    · rename_i t1 f1 a1 b1 t2 f2 a2 b2
      rw [ih (sub hd (by simp)) a1 a2 e.1, ih (sub hd (by simp)) b1 b2 e.2]
    · rw [str_code e]
    · rename_i p1 f1 a1 b1 p2 f2 a2 b2
      rw [codes_eq (fun a ma b mb => ih (sub2 hd (by simp) ma) (a1 a ma) (a2 b mb)) e.1, ih (sub hd (by simp)) b1 b2 e.2]
    · rename_i t1 u1 a1 b1 t2 u2 a2 b2
      rw [ih (sub hd (by simp)) a1 a2 e.1, ih (sub hd (by simp)) b1 b2 e.2]
    · rename_i w1 a1 w2 a2
      rw [ih (sub hd (by simp)) a1 a2 e]
    · rename_i l1 a1 l2 a2
      rw [codes_eq (fun a ma b mb => ih (sub2 hd (by simp) ma) (a1 a ma) (a2 b mb)) e]
    · rename_i l1 a1 l2 a2
      rw [codes_eq (fun a ma b mb => ih (sub2 hd (by simp) ma) (a1 a ma) (a2 b mb)) e]
    · rename_i w1 b1 a1 w2 b2 a2
      have e2 : b1 = b2 := by
        have := e.2
        cases b1 <;> cases b2 <;> simp at this ⊢
      rw [ih (sub hd (by simp)) a1 a2 e.1, e2]
def Rise (us : List Tr) : Prop := ∀ (i j : Nat) (t u : Tr), i ≤ j → us[i]? = some t → us[j]? = some u → ltT u t = false
theorem Rise.tail {a : Tr} {us : List Tr} (h : Rise (a :: us)) : Rise us := fun i j t u hij e1 e2 => h (i + 1) (j + 1) t u (by omega) (by simpa using e1) (by simpa using e2)
theorem Rise.head {a b : Tr} {us : List Tr} (h : Rise (a :: us)) (m : b ∈ us) : ltT b a = false := by
  obtain ⟨j, hj, e⟩ := List.getElem_of_mem m
  exact h 0 (j + 1) a b (by omega) rfl (by simp [hj, e])
end Tre
set_option Elab.async false
set_option linter.all false
set_option maxRecDepth 100000
set_option maxHeartbeats 1000000
namespace Wd
open PySem L2 Tre Mth Dj
def Lt2 (e : Nat) (x : Int) : Prop := x.natAbs < 2 ^ e
theorem Lt2.mono {m n : Nat} {x : Int} (h : Lt2 m x) (hn : m ≤ n) : Lt2 n x := Nat.lt_of_lt_of_le h (Nat.pow_le_pow_right (by decide) hn)
theorem Lt2.big {n : Nat} {x : Int} (h : Lt2 n x) (hn : n ≤ 8000) : Big x := h.mono hn
theorem Lt2.add {m : Nat} {x y : Int} (h1 : Lt2 m x) (h2 : Lt2 m y) : Lt2 (m + 1) (x + y) := by
  unfold Lt2 at *
  have := Int.natAbs_add_le x y
  rw [Nat.pow_succ]
  omega
abbrev Fr := Int × Int
def frT (p : Fr) : Tr := .tup [.int p.1, .int p.2]
def frK (p : Fr) : Tk.KT := .tp [.lf (.inl p.1), .lf (.inl p.2)]
structure Gf (e : Nat) (p : Fr) : Prop where
  pos : 0 < p.2
  top : Lt2 e p.1
  bot : Lt2 e p.2
theorem Gf.mono {m n : Nat} {p : Fr} (h : Gf m p) (hn : m ≤ n) : Gf n p := ⟨h.pos, h.top.mono hn, h.bot.mono hn⟩
def zero : Fr := (0, 1)
def Gv (p : Fr) : Prop := Gf 200 p ∧ Share p.1 p.2
theorem gf_zero : Gf 200 zero := ⟨by decide, by show (0 : Nat) < 2 ^ 200; exact Nat.pow_pos (by decide), by show (1 : Nat) < 2 ^ 200; decide +kernel⟩
theorem gv_zero : Gv zero := ⟨gf_zero, by decide, by decide⟩
def plusF (p q : Fr) : Fr := (pX p.1 p.2 q.1 q.2, pY p.1 p.2 q.1 q.2)
structure Wld where
  fl : Str → Bool
  va : Str → Fr
  ca : List Tk.KT → Fr
structure Wld.Ok (W : Wld) : Prop where
  va : ∀ x, Gv (W.va x)
  ca : ∀ k, Gv (W.ca k)
mutual
def valT (W : Wld) : Tr → Fr
  | .tup (_ :: .str x :: r) => match r with
    | [] => W.va x
    | t :: _ => W.ca [.lf (.inr x), .tp (keyT W t)]
  | _ => zero
def keyT (W : Wld) : Tr → List Tk.KT
  | .tup ts => valsT W ts
  | _ => []
def valsT (W : Wld) : List Tr → List Tk.KT
  | [] => []
  | t :: ts => frK (valT W t) :: valsT W ts
end
def Gp (p : Tr) : Prop := ∃ tm f, p = .tup [tm, frT f] ∧ Ty .tm tm ∧ tm.depth ≤ 5 ∧ Gf 603 f
inductive Gw : Tr → Prop
  | fl (x : Str) : Gw (.tup [s_ "flag", .str x])
  | mo (ps : List Tr) (f : Fr) : ps.length ≤ 3 → (∀ p ∈ ps, Gp p) → Gf 900 f → Gw (.tup [s_ "most", .tup ps, frT f])
  | li (t u : Tr) : Ty .tm t → Ty .tm u → t.depth ≤ 7 → u.depth ≤ 7 → Gw (.tup [s_ "like", t, u])
  | no (w : Tr) : Gw w → Gw (.tup [s_ "not", w])
  | bo (l : List Tr) : l.length ≤ 3 → (∀ w ∈ l, Gw w) → Gw (.tup [s_ "both", .tup l])
  | ei (l : List Tr) : l.length ≤ 3 → (∀ w ∈ l, Gw w) → Gw (.tup [s_ "either", .tup l])
theorem Gw.ty {t : Tr} (h : Gw t) : Ty .ws t := by
  induction h with
  | fl x => exact .fl x
  | mo ps f _ hp _ =>
    refine .mo ps _ (fun p m => ?_) (.fr _ _)
    obtain ⟨tm, f, rfl, h1, _⟩ := hp p m
    exact .pr _ _ h1 (.fr _ _)
  | li t u h1 h2 _ _ => exact .li t u h1 h2
  | no w _ ih => exact .no w ih
  | bo l _ _ ih => exact .bo l ih
  | ei l _ _ ih => exact .ei l ih
inductive Gl : Tr → Prop
  | mk (t : Tr) (b : Bool) : Gw t → Gl (.tup [t, .bl b])
theorem Gl.ty {t : Tr} (h : Gl t) : Ty .lt t := by
  cases h with
  | mk t b h => exact .lt t b h.ty
end Wd
set_option Elab.async false
set_option linter.all false
set_option maxRecDepth 100000
set_option maxHeartbeats 1000000
namespace K77
open PySem L2 Mth
def top (i : Nat) : Stmt := PySem.Challenge.pw_smallword_k77_opening_steps.main.body.getD i (.Pass ⟨0, 0, 0, 0⟩)
abbrev sFg : Stmt := top 3
abbrev sFt : Stmt := top 4
abbrev sBr : Stmt := top 7
abbrev sSt : Stmt := top 8
abbrev sSw : Stmt := top 9
abbrev sIn : Stmt := top 10
abbrev sTs : Stmt := top 11
abbrev sWr : Stmt := top 13
abbrev sPo : Stmt := top 14
abbrev sGp : Stmt := top 15
abbrev sOt : Stmt := top 17
abbrev sOd : Stmt := top 18
abbrev sDraw : Stmt := top 20
abbrev sTerm : Stmt := top 21
abbrev sShare : Stmt := top 22
abbrev sAtom : Stmt := top 23
abbrev sWish : Stmt := top 24
abbrev sWishes : Stmt := top 25
abbrev sParts : Stmt := top 26
abbrev sLaw : Stmt := top 27
theorem same_upd {H : Hp} {p : Addr} {o : HO} (h : H p = none) : Same H (upd H p o) := fun b u e => by
  rw [upd_ne (ne_of_none e h)]
  exact e
theorem same_wr {H H' : Hp} {D : Addr} {o : HO} (h : H D = none) (s : Same H H') : Same H (upd H' D o) := fun b u e => by
  rw [upd_ne (ne_of_none e h)]
  exact s b u e
section
variable {P : Program} {w : World} {K : PySem.W.Frag} {mg : Str → Option Value} {base : Heap}
structure Blt (mg : Str → Option Value) : Prop where
  ab : mg "abs" = none
  le : mg "len" = none
  ra : mg "range" = none
  isi : mg "isinstance" = none
  tu : mg "tuple" = none
  it : mg "int" = none
  bo : mg "bool" = none
  li : mg "list" = none
  st : mg "str" = none
  al : mg "all" = none
  an : mg "any" = none
  su : mg "sum" = none
  zi : mg "zip" = none
  so : mg "sorted" = none
  ve : mg "ValueError" = none
  rv : mg "reversed" = none

end
end K77
set_option Elab.async false
set_option linter.all false
set_option maxRecDepth 100000
set_option maxHeartbeats 1000000
namespace L2
open PySem PySem.Spec PyProof.Rows
section
variable {X : Cx}
def rZf : V → List V → Hp → VK → Prop := fun x vs H Q => ∃ z i, x = .str z ∧ vs = [.int i] ∧ PadOk i = true ∧ Q (.str (Txt.zfill z i)) H
theorem mt_zfill : MtM X "str.zfill" rZf := by
  intro pins s σ H x vs v us Q I rx rv h
  obtain ⟨z, i, rfl, rfl, hp, q⟩ := h
  obtain ⟨t, rfl⟩ := rx
  obtain ⟨u, rfl, ru⟩ := rv.one
  obtain ⟨t', rfl⟩ := ru
  exact SC.zfill hp (fun t' k => ⟨.str _, H, I.tok k, ⟨_, rfl⟩, q⟩)
end
end L2
set_option Elab.async false
set_option linter.all false
set_option maxRecDepth 100000
set_option maxHeartbeats 1000000
namespace L2
open PySem PySem.Spec PyProof.Rows
section
variable {X : Cx} {tg : Expr}
end
section
variable {X : Cx} {tg : Expr}
end
end L2
set_option Elab.async false
set_option linter.all false
set_option maxRecDepth 100000
set_option maxHeartbeats 1000000
namespace L2
open PySem PySem.Spec PyProof.Rows
theorem nolen_rev : typeLookup (.type "list_reverseiterator") "__len__" = pure none := by rw [typeLookup_type, builtinLookup_eq_fast]; kernel_rfl
theorem hint_rev : typeLookup (.type "list_reverseiterator") "__length_hint__" = pure (some (.builtin "list_reverseiterator.__length_hint__")) := by rw [typeLookup_type, builtinLookup_eq_fast]; kernel_rfl
section
variable {prog : Program} {w : World} {A : Around} {E : Value → Shared → Prop} {s : Shared}
theorem collect_rev {I l : Addr} {items : Array Value} {Q : List Value → Shared → Prop} (hh : A.handled = none) (hne : l ≠ I) (hit : s.heap.IsRevIter I l ((items.size : Int) - 1)) (hl : s.heap.IsList l items) (hn : items.size ≤ sizeLine)
    (hQ : ∀ s' acc, Moved [I] (fun a b => b = a) s s' → ItemsOf (fun i v => items[items.size - 1 - i]? = some v) acc items.size → Q acc.toList s') : wpAny (model prog w) A (collect (.ref I)) Q E s := by
  have W := (Walks.listRev (prog := prog) (w := w) (A := A.in1) hh I l hne items).toS
  have ltI : I < s.heap.objs.size := by obtain ⟨o, e, _⟩ := hit; exact Heap.lt_size e
  have ltl : l < s.heap.objs.size := by obtain ⟨o, e, _⟩ := hl; exact Heap.lt_size e
  have st0 : 0 ≤ items.size ∧ s.heap.IsRevIter I l ((items.size : Int) - 1 - ((0 : Nat) : Int)) ∧ s.heap.IsList l items := ⟨Nat.zero_le _, by simpa using hit, hl⟩
  have new : ∀ b ∈ [I, l], b ≠ s.heap.objs.size := fun b hb => by
    rcases List.mem_cons.mp hb with rfl | hb
    · exact Nat.ne_of_lt ltI
    · rw [List.mem_singleton.mp hb]
      exact Nat.ne_of_lt ltl
  unfold collect
  refine wpAny_bind (wpAny_runValue (codeAny_builtin PySem.F.entry_proto_collect ?_))
  rw [Around.under_plainId PySem.F.plain_proto_collect _]
  show wpAny _ A.in1 (newList [] >>= fun x => again (.builtin "list.__iadd__" ⟨[x, .ref I], []⟩)) _ _ s
  refine wpAny_bind (wpAny_newObj_type ?_)
  refine wpAny_pure ⟨plainId_quiet PySem.F.plain_list_iadd _, codeAny_builtin PySem.F.entry_list_iadd ?_⟩
  rw [Around.under_plainId PySem.F.plain_list_iadd _]
  generalize hs1 : ({ s with heap := s.heap.push { cls := .type "list", data := .seq ([] : List Value).toArray } } : Shared) = s1
  have st1 : 0 ≤ items.size ∧ s1.heap.IsRevIter I l ((items.size : Int) - 1 - ((0 : Nat) : Int)) ∧ s1.heap.IsList l items := by
    subst hs1
    exact ⟨Nat.zero_le _, st0.2.1.at fun o e => Heap.get?_push_of_some _ e, st0.2.2.at fun o e => Heap.get?_push_of_some _ e⟩
  have hT : s1.TypeIs (.ref I) "list_reverseiterator" := st1.2.1.typeIs
  have h1 : Builtin.List.listSameRef (.ref s.heap.objs.size) (.ref I) = false := by simp [Builtin.List.listSameRef, (Nat.ne_of_lt ltI).symm]
  show wpAny _ A.in1 (Builtin.List.listExtendWith (.ref s.heap.objs.size) (.ref I) (.ref s.heap.objs.size)) _ _ s1
  unfold Builtin.List.listExtendWith
  refine wpAny_bind (wpAny_typeOf hT ?_)
  rw [if_neg (by rw [h1]; decide)]
  refine wpAny_bind (wpAny_pyIter_revIter st1.2.1 ?_)
  refine wpAny_bind (wpAny_holding ?_)
  unfold Builtin.List.listLengthHint
  refine wpAny_bind (wpAny_specialOf hT nolen_rev ?_)
  show wpAny _ A.in1 (specialOf (Value.ref I) (Str.ofString "__length_hint__") >>= _) _ _ _
  refine wpAny_bind (wpAny_specialOf hT hint_rev ?_)
  generalize hid : ("list_reverseiterator.__length_hint__" : String) = nm
  (fail_if_success (clear hid nm))
  wp_delta
  rw [show splitId nm = some ("list_reverseiterator", "__length_hint__") by subst hid; decide +kernel]
  subst hid
  refine wpAny_bind (wpAny_isInstance (b := true) hT (by rw [isSubtype_type]; kernel_rfl) ?_)
  refine wpAny_pure ?_
  rw [if_neg (by decide)]
  have hS1 : s1.heap.get? s.heap.objs.size = some { cls := .type "list", data := .seq ([] : List Value).toArray } := by
    subst hs1
    exact Heap.get?_push_size _ rfl
  refine wpAny_pure ⟨plainId_quiet PySem.F.plain_extend_loop _, codeAny_extend_loopS W hn _ (fun m => new _ m rfl) _ items.size 0 _ _ _ rfl (Nat.zero_le _) st1 hS1 (ItemsOf.nil _) fun s' acc c' hm hS' hacc => ?_⟩
  show wpAny _ A (load s.heap.objs.size >>= _) _ _ s'
  refine wpAny_bind (wpAny_load hS' ?_)
  refine wpAny_pure (hQ s' acc ?_ hacc)
  subst hs1
  exact Moved.drop_new (o := { cls := .type "list", data := .seq ([] : List Value).toArray }) (tk := s.toks) hm (Nat.le_refl _)
end
section
variable {X : Cx}
theorem rev_items {items acc : Array Value} {ys : List Str} (r : Vals (ys.map V.str) items.toList) (h : ItemsOf (fun i v => items[items.size - 1 - i]? = some v) acc items.size) : ∃ l : List (Str × Tok), strValues l = acc.toList ∧ l.map (·.1) = ys.reverse := by
  have e : acc.toList = items.toList.reverse := by
    refine List.ext_getElem? fun j => ?_
    by_cases hj : j < items.size
    · have hj' : j < acc.size := by rw [h.1]; exact hj
      have := h.2 j _ (Array.getElem?_eq_getElem hj')
      rw [Array.getElem?_toList, Array.getElem?_eq_getElem hj', ← this, List.getElem?_reverse (by simpa using hj), Array.getElem?_toList, Array.length_toList]
    · rw [List.getElem?_eq_none (by rw [Array.length_toList, h.1]; omega), List.getElem?_eq_none (by rw [List.length_reverse, Array.length_toList]; omega)]
  rw [e]
  generalize items.toList = us at r
  clear e h
  induction ys generalizing us with
  | nil => cases r; exact ⟨[], rfl, rfl⟩
  | cons y ys ih =>
    rw [List.map_cons] at r
    cases r with
    | cons r1 r2 =>
      obtain ⟨t, rfl⟩ := r1
      obtain ⟨l, e1, e2⟩ := ih _ r2
      refine ⟨l ++ [(y, t)], ?_, ?_⟩
      · rw [List.reverse_cons, ← e1]
        unfold strValues
        rw [List.map_append]
        rfl
      · rw [List.map_append, e2, List.reverse_cons]
        rfl
theorem join_rev (hc : X.calm = true) {pins : List (Addr × Obj)} {σ : L2.St} {H : Hp} {s : Shared} {Q : VK} {sep : Str} {t : Tok} {p l : Addr} {ys : List Str} (I : Inv X pins σ H s) (fp : FpOk X pins H p) (hl : H l = some (.lst (ys.map V.str)))
    (hit : s.heap.IsRevIter p l ((ys.length : Int) - 1)) (hz : (ys.map (·.length)).sum + ys.length * sep.length ≤ 16777216) (q : Q (.str (Txt.join sep ys.reverse)) H) :
    wpAny (model X.prog X.w) X.A (call (.builtin "str.join") [.str sep t, .ref p]) (EP X pins σ Q) X.xe s := by
  obtain ⟨f0, f1, f2, f3, f4, f5⟩ := fp
  obtain ⟨its, r, pl, hsz⟩ := I.list (SqL.of hl)
  have hne : l ≠ p := fun e => by rw [e, f0] at hl; cases hl
  have e : its.toArray.size = ys.length := by rw [List.size_toArray, ← r.length, List.length_map]
  have hit' : s.heap.IsRevIter p l ((its.toArray.size : Int) - 1) := by rw [e]; exact hit
  have hn : ys.length ≤ sizeLine := by
    have := (show ObjOk X.prog X.w H s.heap l (.lst (ys.map V.str)) from I.hok l _ hl).1
    rw [List.length_map] at this
    exact this
  refine wpAny_call (codeAny_call_builtin PySem.F.slot_str_join.plain PySem.F.entry_str_join (PySem.F.slot_str_join.check _ _ _ _ _ _ _ _ (typeIs_str _ _ _) (PySem.F.args_str_join_2 _ _) ?_))
  rw [join_tree_other]
  refine wpAny_bind (wpAny_typeOf hit.typeIs ?_)
  show wpAny _ X.A.in1 ((pyIter (.ref p)).tryCatch _ >>= fun it => collect it >>= fun items => _) _ _ s
  refine wpAny_bind (wpAny_tryCatch (wpAny_pyIter_revIter hit ?_))
  refine wpAny_bind (collect_rev (I.ok.hd hc) hne hit' pl.isList (by rw [e]; exact hn) fun s' acc hm hacc => ?_)
  obtain ⟨pr, e1, e2⟩ := rev_items (items := its.toArray) (by simpa using r) hacc
  rw [← e1]
  have hok : JoinOk sep (pr.map (·.1)) = true := by
    rw [e2]
    refine joinOk_of ?_
    rw [List.map_reverse, List.sum_reverse, List.length_reverse]
    exact hz
  unfold JoinOk at hok
  rw [Bool.not_eq_true'] at hok
  have g : Gives (PySem.joinTail sep (strValues pr)) (joinMade sep pr) := by
    have g0 := gives_joinTail sep pr hok
    cases pr with
    | nil => exact g0
    | cons a b => cases b with
      | nil => exact g0
      | cons c d => exact g0
  refine g X.prog X.w X.A (wants (EP X pins σ Q) X.xe) s' (post_join pr ⟨joinFit_length hok, fun t' k => ?_⟩)
  rw [e2]
  have I2 : Inv X pins σ H { s with heap := s'.heap, toks := k } := I.turned (fun b o hb e => hm.heap b o (by simpa using hb) e) f0 f1 f3 f4 f5
  have es : ({ s' with toks := k } : Shared) = { s with heap := s'.heap, toks := k } := by
    rw [show s'.gens = s.gens from hm.gens, hm.drawn, hm.os]
  rw [es]
  exact ⟨.str _, H, I2, ⟨_, rfl⟩, q⟩
def tJR (sep : Str) (te : TE) : TE := fun σ H Q => te σ H fun x H1 => ∃ (l : Addr) (ys : List Str), x = .ref l ∧ H1 l = some (.lst (ys.map V.str)) ∧ (ys.map (·.length)).sum + ys.length * sep.length ≤ 16777216 ∧ Q (.str (Txt.join sep ys.reverse)) H1
theorem boot_rev : bootBuiltins "reversed" = some (.type "reversed") := by decide +kernel
theorem pe_joinR {sep : Str} {e : Expr} {te : TE} {j : Nat} {p0 p1 pos apos cpos : Pos} (hc : X.calm = true) (hg : Gl X "reversed") (hm : X.mg "reversed" = none) (he : PE X e te)
    (hbase : attributeBase (.Constant (.str sep) j p0) "join" X.env (eval (.Constant (.str sep) j p0) X.env) = eval (.Constant (.str sep) j p0) X.env := by rfl)
    (hfew : ((backTo cpos (starEach [.Call (.Name "reversed" p1) [e] [] pos] X.env)).all (fun x => !x.1) && (backToKw cpos (keywordEach [] X.env)).all (fun x => x.1.isSome)
      && decide ([Expr.Call (.Name "reversed" p1) [e] [] pos].length + ([] : List Keyword).length + (if ([] : List Keyword).isEmpty then 0 else 1) < 30)) = true := by rfl)
    (hline : (apos.endLine == cpos.line) = true := by rfl) (hs : starEach [.Call (.Name "reversed" p1) [e] [] pos] X.env = [(false, eval (.Call (.Name "reversed" p1) [e] [] pos) X.env)] := by rfl)
    (hs2 : starEach [e] X.env = [(false, eval e X.env)] := by rfl) :
    PE X (.Call (.Attribute (.Constant (.str sep) j p0) "join" apos) [.Call (.Name "reversed" p1) [e] [] pos] [] cpos) (tJR sep te) := by
  intro pins s σ H Q I h
  refine wpAny_Call_method_late hbase hfew hline rfl (thn ((pe_str (X := X)) pins s σ H (fun x H1 => x = .str sep ∧ H1 = H) I ⟨rfl, rfl⟩) fun v s1 ⟨x, H1, I1, r1, ex, eH⟩ => ?_)
  subst ex eH
  obtain ⟨t, rfl⟩ := r1
  refine ⟨"str", "str.join", PySem.F.plainAttrs_str, PySem.F.slot_str_join, PySem.F.type_str_join, typeIs_str _ _ _, fun a ea => (by cases ea), ?_⟩
  rw [hs]
  refine Calls.callWith_builtin rfl (Calls.evalArgs_plain ?_)
  show wpAny _ _ (spliced [(false, eval (.Call (.Name "reversed" p1) [e] [] pos) X.env)]) _ _ s1
  refine Calls.spliced_cons ?_
  refine wpAny_Call_Name_kw (ld_blt I1 hg hm boot_rev ?_ (by decide) (by decide))
  refine PyProof.Rows.callWith_type1 (thn ((pa_cons he pa_nil hs2) pos pins s1 σ H1 (fun vs H2 => match vs with | [x] => ∃ (l : Addr) (ys : List Str), x = .ref l ∧ H2 l = some (.lst (ys.map V.str)) ∧ (ys.map (·.length)).sum + ys.length * sep.length ≤ 16777216 ∧ Q (.str (Txt.join sep ys.reverse)) H2 | _ => False) I1 h) fun us s2 ⟨vs, H2, I2, r2, q2⟩ => ?_) hs2 rfl
  match vs, r2, q2 with
  | [_], r2, ⟨l, ys, ex, hl, hz, q⟩ =>
    subst ex
    obtain ⟨u, rfl, ru⟩ := r2.one
    cases ru
    obtain ⟨its, rv, pl, _⟩ := I2.list (SqL.of hl)
    have el : its.toArray.size = ys.length := by rw [List.size_toArray, ← rv.length, List.length_map]
    refine call_reversed_list pl.isList ?_
    refine Calls.spliced_nil ?_
    rw [el]
    have I3 : Inv X pins σ H2 { s2 with heap := s2.heap.push (revObj l ((ys.length : Int) - 1)) } := I2.kept (t' := s2.toks) fun b o e => Heap.get?_push_of_some _ e
    exact join_rev hc I3 (I2.fpOk (Nat.le_refl _) (I2.hok.fresh (Nat.le_refl _))) hl ⟨_, Heap.get?_push_size _ rfl, rfl, rfl⟩ hz q
end
end L2
set_option Elab.async false
set_option linter.all false
set_option maxRecDepth 100000
set_option maxHeartbeats 1000000
namespace Dec
open PySem PySem.NumText
def cl (x : Str) : List Nat := x.cps.toList
theorem cl_app (x y : Str) : cl (x ++ y) = cl x ++ cl y := by
  show (x.cps ++ y.cps).toList = _
  simp [cl]
theorem cl_inj {x y : Str} (h : cl x = cl y) : x = y := by
  cases x
  cases y
  simp only [Str.mk.injEq]
  exact Array.toList_inj.mp h
theorem cl_len (x : Str) : (cl x).length = x.length := by simp [cl, Str.length]
def ds (n : Nat) : List Nat := (Nat.toDigits 10 n).map Char.toNat
theorem digit_code : ∀ d : Nat, d < 10 → (Nat.digitChar d).toNat = 48 + d := by decide
theorem ds_lt {n : Nat} (h : n < 10) : ds n = [48 + n] := by
  unfold ds
  rw [Nat.toDigits_of_lt_base h]
  show [(Nat.digitChar n).toNat] = _
  rw [digit_code n h]
theorem ds_step {n : Nat} (h : 10 ≤ n) : ds n = ds (n / 10) ++ [48 + n % 10] := by
  have hm : n % 10 < 10 := Nat.mod_lt n (by decide)
  have t : Nat.toDigits 10 (n / 10) ++ Nat.toDigits 10 (n % 10) = Nat.toDigits 10 (10 * (n / 10) + n % 10) := Nat.toDigits_append_toDigits (by decide) (by omega) hm
  rw [Nat.div_add_mod] at t
  have e := ds_lt hm
  unfold ds at e ⊢
  rw [← t, List.map_append, e]
theorem ds_val (n : Nat) : digitsVal (ds n) = n := PySem.W.KIN.val_back n
theorem ds_dig : ∀ n : Nat, AllDigits (ds n) := by
  intro n
  induction n using Nat.strongRecOn with
  | _ n ih =>
    by_cases h : n < 10
    · rw [ds_lt h]
      intro c m
      rw [List.mem_singleton.mp m]
      omega
    · rw [ds_step (by omega)]
      intro c m
      rcases List.mem_append.mp m with m | m
      · exact ih (n / 10) (by omega) c m
      · rw [List.mem_singleton.mp m]
        omega
theorem ds_ne (n : Nat) : ds n ≠ [] := by
  by_cases h : n < 10
  · rw [ds_lt h]
    simp
  · rw [ds_step (by omega)]
    simp
theorem ds_len : ∀ (k : Nat) {n : Nat}, n < 10 ^ (k + 1) → (ds n).length ≤ k + 1
  | 0, n, h => by rw [ds_lt (by simpa using h)]; simp
  | k + 1, n, h => by
    by_cases q : n < 10
    · rw [ds_lt q]
      simp
    · rw [ds_step (by omega), List.length_append]
      have := ds_len k (n := n / 10) (by rw [Nat.pow_succ] at h; omega)
      simp only [List.length_cons, List.length_nil]
      omega
theorem ds_inj {m n : Nat} (h : ds m = ds n) : m = n := by rw [← ds_val m, h, ds_val]
def pad : Nat → Nat → List Nat
  | 0, _ => []
  | k + 1, r => pad k (r / 10) ++ [48 + r % 10]
theorem pad_len : ∀ k r, (pad k r).length = k
  | 0, _ => rfl
  | k + 1, r => by simp [pad, pad_len k]
theorem pad_zero : ∀ k, pad k 0 = List.replicate k 48
  | 0 => rfl
  | k + 1 => by
    show pad k (0 / 10) ++ [48 + 0 % 10] = _
    rw [Nat.zero_div, pad_zero k, List.replicate_succ']
theorem ds_app {q : Nat} (hq : 0 < q) : ∀ (k : Nat) {r : Nat}, r < 10 ^ k → ds (q * 10 ^ k + r) = ds q ++ pad k r
  | 0, r, h => by
    have : r = 0 := by simpa using h
    subst this
    simp [pad]
  | k + 1, r, h => by
    have e : q * 10 ^ (k + 1) + r = 10 * (q * 10 ^ k) + r := by rw [Nat.pow_succ, ← Nat.mul_assoc, Nat.mul_comm]
    have h10 : 10 ≤ q * 10 ^ (k + 1) + r := by
      have : 1 ≤ q * 10 ^ k := Nat.mul_pos hq (Nat.pow_pos (by decide))
      omega
    rw [ds_step h10]
    have e1 : (q * 10 ^ (k + 1) + r) / 10 = q * 10 ^ k + r / 10 := by omega
    have e2 : (q * 10 ^ (k + 1) + r) % 10 = r % 10 := by omega
    rw [e1, e2, ds_app hq k (r := r / 10) (by rw [Nat.pow_succ] at h; omega)]
    simp [pad]
theorem zf : ∀ (k : Nat) {r : Nat}, r < 10 ^ (k + 1) → List.replicate (k + 1 - (ds r).length) 48 ++ ds r = pad (k + 1) r
  | 0, r, h => by
    have h : r < 10 := by simpa using h
    rw [ds_lt h]
    show [48 + r] = [48 + r % 10]
    rw [Nat.mod_eq_of_lt h]
  | k + 1, r, h => by
    by_cases q : r < 10
    · rw [ds_lt q]
      show List.replicate (k + 1 + 1 - 1) 48 ++ [48 + r] = pad (k + 1) (r / 10) ++ [48 + r % 10]
      rw [Nat.mod_eq_of_lt q, Nat.div_eq_of_lt q, pad_zero]
      rfl
    · rw [ds_step (by omega)]
      have := zf k (r := r / 10) (by rw [Nat.pow_succ] at h; omega)
      show _ = pad (k + 1) (r / 10) ++ [48 + r % 10]
      rw [← this, List.length_append]
      simp
end Dec
set_option Elab.async false
set_option linter.all false
set_option maxRecDepth 100000
set_option maxHeartbeats 1000000
namespace Dec
open PySem PySem.NumText L2 Mth
theorem cl_zfill {z : Str} {r k : Nat} (h : cl z = ds r) (hr : r < 10 ^ (k + 1)) : cl (Txt.zfill z ((k + 1 : Nat) : Int)) = pad (k + 1) r := by
  have hl := ds_len k hr
  have hz : z.length = (ds r).length := by rw [← cl_len, h]
  rw [← zf k hr]
  unfold Txt.zfill
  by_cases q : ((k + 1 : Nat) : Int) ≤ (z.length : Int)
  · rw [if_pos q, h, show k + 1 - (ds r).length = 0 by omega]
    rfl
  · rw [if_neg q]
    unfold zfilled
    have hd : ∀ c, z.cps[0]? = some c → 48 ≤ c ∧ c ≤ 57 := fun c e => by
      refine ds_dig r c ?_
      rw [← h]
      exact Array.mem_toList_iff.mpr (Array.mem_of_getElem? e)
    have hp : cl (Builtin.Str.padded z (((k + 1 : Nat) : Int).toNat - z.length) 0 48) = List.replicate (k + 1 - (ds r).length) 48 ++ ds r := by
      unfold Builtin.Str.padded cl
      simp only [Array.toList_append, Array.toList_replicate, List.replicate_zero, List.append_nil]
      rw [← hz, ← h]
      rfl
    split
    · rename_i e
      have := hd _ e
      omega
    · rename_i e
      have := hd _ e
      omega
    · exact hp
def sl : Str := Str.ofString "/"
end Dec
set_option Elab.async false
set_option linter.all false
set_option maxRecDepth 100000
set_option maxHeartbeats 1000000
namespace Dec
open PySem PySem.NumText L2 Mth
def sg (x : Int) : List Nat := if x < 0 then [45] else []
def low (x y : Int) : List Nat := ds x.natAbs ++ (if y = 1 then [] else 47 :: ds y.natAbs)
def txt (x y : Int) : List Nat := sg x ++ low x y
end Dec
set_option Elab.async false
set_option linter.all false
set_option maxRecDepth 100000
set_option maxHeartbeats 1000000
namespace Su
open PySem L2 Tre Mth Wd
def rv (p : Fr) : Rat := (p.1 : Rat) / (p.2 : Rat)
abbrev Sh (p : Fr) : Prop := Share p.1 p.2
theorem ne0 {b : Int} (h : 0 < b) : (b : Rat) ≠ 0 := by
  simp only [ne_eq, Rat.intCast_eq_zero_iff]
  omega
theorem rv_eq {p q : Fr} (h1 : 0 < p.2) (h2 : 0 < q.2) : rv p = rv q ↔ p.1 * q.2 = q.1 * p.2 := by
  have a := ne0 h1
  have b := ne0 h2
  unfold rv
  constructor
  · intro h
    have : (p.1 : Rat) * q.2 = q.1 * p.2 := by grind
    exact_mod_cast this
  · intro h
    have : (p.1 : Rat) * q.2 = q.1 * p.2 := by exact_mod_cast h
    grind
theorem rv_inj {p q : Fr} (h1 : Sh p) (h2 : Sh q) (e : rv p = rv q) : p = q := by
  rw [rv_eq h1.1 h2.1] at e
  obtain ⟨a, b⟩ := p
  obtain ⟨c, d⟩ := q
  obtain ⟨b0, g1⟩ := h1
  obtain ⟨d0, g2⟩ := h2
  dsimp only at *
  have n1 : a.natAbs * d.natAbs = c.natAbs * b.natAbs := by rw [← Int.natAbs_mul, ← Int.natAbs_mul, e]
  have g1' : Nat.Coprime b.natAbs a.natAbs := by rw [Nat.coprime_comm]; exact g1
  have g2' : Nat.Coprime d.natAbs c.natAbs := by rw [Nat.coprime_comm]; exact g2
  have d1 : b.natAbs ∣ d.natAbs := g1'.dvd_of_dvd_mul_left ⟨c.natAbs, by rw [n1, Nat.mul_comm]⟩
  have d2 : d.natAbs ∣ b.natAbs := g2'.dvd_of_dvd_mul_left ⟨a.natAbs, by rw [← n1, Nat.mul_comm]⟩
  have e1 := Nat.dvd_antisymm d1 d2
  have e2 : b = d := by omega
  subst e2
  have e3 : a = c := Int.eq_of_mul_eq_mul_right (by omega) e
  rw [e3]
theorem sh_plus {p q : Fr} (h1 : Sh p) (h2 : Sh q) : Sh (plusF p q) := (plus_ok h1 h2).1
theorem rv_plus {p q : Fr} (h1 : Sh p) (h2 : Sh q) : rv (plusF p q) = rv p + rv q := by
  obtain ⟨s, e⟩ := plus_ok h1 h2
  have a := ne0 h1.1
  have b := ne0 h2.1
  have c := ne0 s.1
  have e' : ((pX p.1 p.2 q.1 q.2 : Int) : Rat) * (p.2 * q.2) = (p.1 * q.2 + q.1 * p.2) * (pY p.1 p.2 q.1 q.2 : Int) := by exact_mod_cast e
  unfold rv plusF
  dsimp only
  grind
theorem sh_zero : Sh zero := ⟨by decide, by decide⟩
theorem rv_zero : rv zero = 0 := by
  show ((0 : Int) : Rat) / ((1 : Int) : Rat) = 0
  have : ((0 : Int) : Rat) = 0 := by simp
  rw [this]
  grind
theorem rv_ne {p : Fr} (h : Sh p) : rv p = 0 ↔ p = zero := by
  constructor
  · intro e
    exact rv_inj h sh_zero (e.trans rv_zero.symm)
  · rintro rfl
    exact rv_zero
def low (t b : Int) : Fr := (t / (Int.gcd t b : Int), b / (Int.gcd t b : Int))
abbrev Pq := Tr × Fr
def prT (p : Pq) : Tr := .tup [p.1, frT p.2]
open Classical in
noncomputable def tot (t : Tr) : List Pq → Rat
  | [] => 0
  | p :: r => (if p.1 = t then rv p.2 else 0) + tot t r
theorem tot_app (t : Tr) (a b : List Pq) : tot t (a ++ b) = tot t a + tot t b := by
  induction a with
  | nil => simp only [List.nil_append, tot]; grind
  | cons p r ih => simp only [List.cons_append, tot, ih]; grind
open Classical in
theorem tot_one (t : Tr) (p : Pq) : tot t [p] = if p.1 = t then rv p.2 else 0 := by
  simp only [tot]
  grind
theorem tot_none {t : Tr} : ∀ {l : List Pq}, (∀ p ∈ l, p.1 ≠ t) → tot t l = 0
  | [], _ => rfl
  | p :: r, h => by
    simp only [tot]
    rw [if_neg (h p List.mem_cons_self), tot_none fun q m => h q (List.mem_cons_of_mem _ m)]
    grind
abbrev Asc (us : List Pq) : Prop := us.Pairwise fun a b => ltT a.1 b.1 = true
theorem lt_irr (t : Tr) : ltT t t = false := by
  cases e : ltT t t with
  | false => rfl
  | true => exact (ltT_asym e).symm.trans e |>.symm
theorem lt_ne {t u : Tr} (h : ltT t u = true) : t ≠ u := fun z => by
  rw [z, lt_irr] at h
  cases h
theorem asc_tot {us : List Pq} (h : Asc us) {p : Pq} (m : p ∈ us) : tot p.1 us = rv p.2 := by
  induction us with
  | nil => cases m
  | cons q r ih =>
    obtain ⟨h1, h2⟩ := List.pairwise_cons.mp h
    simp only [tot]
    rcases List.mem_cons.mp m with e | m
    · subst e
      rw [if_pos rfl, tot_none fun x mx => (lt_ne (h1 x mx)).symm]
      grind
    · rw [if_neg (lt_ne (h1 p m)), ih h2 m]
      grind
structure Can (ps us : List Pq) : Prop where
  asc : Asc us
  sh : ∀ p ∈ us, Sh p.2 ∧ p.2 ≠ zero
  eq : ∀ t, tot t us = tot t ps
theorem Can.mem {ps us vs : List Pq} (h1 : Can ps us) (h2 : Can ps vs) {p : Pq} (m : p ∈ us) : p ∈ vs := by
  have e1 := asc_tot h1.asc m
  rw [h1.eq, ← h2.eq] at e1
  have n0 : rv p.2 ≠ 0 := fun z => (h1.sh p m).2 ((rv_ne (h1.sh p m).1).mp z)
  refine Classical.byContradiction fun no => ?_
  by_cases q : ∀ x ∈ vs, x.1 ≠ p.1
  · rw [tot_none q] at e1
    exact n0 e1.symm
  · obtain ⟨x, hx⟩ := Classical.not_forall.mp q
    obtain ⟨mx, ex⟩ := Classical.not_imp.mp hx
    have ex := Classical.not_not.mp ex
    have e2 := asc_tot h2.asc mx
    rw [ex, e1] at e2
    have e3 := rv_inj (h1.sh p m).1 (h2.sh x mx).1 e2
    have : x = p := Prod.ext ex e3.symm
    rw [this] at mx
    exact no mx
theorem Can.to {ps qs us : List Pq} (h : Can ps us) (e : ∀ t, tot t ps = tot t qs) : Can qs us := ⟨h.asc, h.sh, fun t => (h.eq t).trans (e t)⟩
structure Run (ds us : List Pq) : Prop where
  asc : Asc us
  sh : ∀ p ∈ us, Sh p.2
  eq : ∀ t, tot t us = tot t ds
  key : ∀ p ∈ us, ∃ d ∈ ds, d.1 = p.1
theorem Run.nil : Run [] [] := ⟨.nil, (fun p m => by cases m), fun t => rfl, fun p m => by cases m⟩
theorem Run.app {ds us : List Pq} {u : Pq} (h : Run ds us) (hl : ∀ p ∈ us, ltT p.1 u.1 = true) (hs : Sh u.2) : Run (ds ++ [u]) (us ++ [u]) := by
  refine ⟨?_, fun p m => ?_, fun t => by rw [tot_app, tot_app, h.eq], fun p m => ?_⟩
  · refine List.pairwise_append.mpr ⟨h.asc, List.pairwise_singleton _ _, fun a ma b mb => ?_⟩
    rw [List.mem_singleton.mp mb]
    exact hl a ma
  · rcases List.mem_append.mp m with m | m
    · exact h.sh p m
    · rw [List.mem_singleton.mp m]
      exact hs
  · rcases List.mem_append.mp m with m | m
    · obtain ⟨d, md, e⟩ := h.key p m
      exact ⟨d, List.mem_append_left _ md, e⟩
    · rw [List.mem_singleton.mp m]
      exact ⟨u, List.mem_append_right _ List.mem_cons_self, rfl⟩
theorem Run.add {ds us : List Pq} {t : Tr} {f g : Fr} (h : Run ds (us ++ [(t, f)])) (hs : Sh g) : Run (ds ++ [(t, g)]) (us ++ [(t, plusF f g)]) := by
  have hf : Sh f := h.sh (t, f) (List.mem_append_right _ List.mem_cons_self)
  obtain ⟨a1, _, a3⟩ := List.pairwise_append.mp h.asc
  refine ⟨?_, fun p m => ?_, fun u => ?_, fun p m => ?_⟩
  · refine List.pairwise_append.mpr ⟨a1, List.pairwise_singleton _ _, fun a ma b mb => ?_⟩
    rw [List.mem_singleton.mp mb]
    exact a3 a ma (t, f) List.mem_cons_self
  · rcases List.mem_append.mp m with m | m
    · exact h.sh p (List.mem_append_left _ m)
    · rw [List.mem_singleton.mp m]
      exact sh_plus hf hs
  · have e := h.eq u
    rw [tot_app, tot_one] at e
    rw [tot_app, tot_app, tot_one, tot_one, ← e, rv_plus hf hs]
    dsimp only
    by_cases z : t = u
    · simp only [if_pos z]; grind
    · simp only [if_neg z]; grind
  · rcases List.mem_append.mp m with m | m
    · obtain ⟨d, md, e⟩ := h.key p (List.mem_append_left _ m)
      exact ⟨d, List.mem_append_left _ md, e⟩
    · rw [List.mem_singleton.mp m]
      exact ⟨(t, g), List.mem_append_right _ List.mem_cons_self, rfl⟩
theorem tot_filter (t : Tr) {us : List Pq} (h : ∀ p ∈ us, Sh p.2) : tot t (us.filter fun p => decide (p.2 ≠ zero)) = tot t us := by
  induction us with
  | nil => rfl
  | cons p r ih =>
    have ih := ih fun q m => h q (List.mem_cons_of_mem _ m)
    rw [List.filter_cons]
    by_cases z : p.2 = zero
    · have e : decide (p.2 ≠ zero) = false := by simp [z]
      rw [e, if_neg (by decide), ih]
      simp only [tot, z, rv_zero]
      grind
    · have e : decide (p.2 ≠ zero) = true := by simp [z]
      rw [e, if_pos rfl]
      simp only [tot, ih]
theorem Run.fin {ps us : List Pq} (h : Run ps us) : Can ps (us.filter fun p => decide (p.2 ≠ zero)) := by
  refine ⟨h.asc.filter _, fun p m => ?_, fun t => (tot_filter t h.sh).trans (h.eq t)⟩
  obtain ⟨m1, m2⟩ := List.mem_filter.mp m
  exact ⟨h.sh p m1, by simpa using m2⟩
end Su
set_option Elab.async false
set_option linter.all false
set_option maxRecDepth 100000
set_option maxHeartbeats 1000000
namespace L2
open PySem PySem.Spec PyProof.Rows
def CompS (n i : Nat) (acc : List V) (Pv : Nat → List V → Hp → Prop) : Hp → Prop := fun H5 => ∃ m', m' < n - i ∧ (m' = n - (i + 1) ∧ i + 1 ≤ n ∧ Pv (i + 1) acc H5)
theorem CompS.mk {n i : Nat} {acc : List V} {Pv : Nat → List V → Hp → Prop} {H5 : Hp} (hi : i < n) (h : Pv (i + 1) acc H5) : CompS n i acc Pv H5 := ⟨n - (i + 1), by omega, rfl, hi, h⟩
end L2
set_option Elab.async false
set_option linter.all false
set_option maxRecDepth 100000
set_option maxHeartbeats 1000000
namespace Zp
open PySem
inductive Src where
  | lst | tup
def Src.It (k : Src) (h : Heap) (it l : Addr) (i : Nat) : Prop := match k with
  | .lst => h.IsListIter it l i
  | .tup => h.IsTupleIter it l i
section
variable {prog : Program} {w : World} {A : Around} {E : Value → Shared → Prop} {s : Shared} {k : Src} {it l : Addr} {i : Nat} {xs : Array Value} {x : Value} {Q : Value → Shared → Prop}
end
end Zp
set_option Elab.async false
set_option linter.all false
set_option maxRecDepth 100000
set_option maxHeartbeats 1000000
namespace Zp
open PySem
section
variable {prog : Program} {w : World} {A : Around} {E : Value → Shared → Prop} {s : Shared} {k : Src} {z TI TO i1 i2 l1 l2 : Addr} {j : Nat} {xs ys : Array Value} {x y a b : Value}
end
end Zp
set_option Elab.async false
set_option linter.all false
set_option maxRecDepth 100000
set_option maxHeartbeats 1000000
namespace Zp
open PySem
section
variable {prog : Program} {w : World} {A : Around} {E : Value → Shared → Prop} {s : Shared}
end
end Zp
namespace L2
open PySem PySem.Spec PyProof.Rows Zp
section
variable {X : Cx} {pins : List (Addr × Obj)} {σ : St} {H : Hp} {s : Shared}
end
section
variable {X : Cx}
end
end L2
set_option Elab.async false
set_option linter.all false
set_option maxRecDepth 100000
set_option maxHeartbeats 1000000
namespace L2
open PySem PySem.Spec PyProof.Rows Zp
section
variable {X : Cx}
end
section
variable {X : Cx}
end
end L2
set_option Elab.async false
set_option linter.all false
set_option maxRecDepth 100000
set_option maxHeartbeats 1000000
namespace Tre
open PySem L2 Zp
def Sm (H : Hp) : Nat → V → V → Prop
  | 0, _, _ => False
  | n + 1, v, w => (∃ x, v = .str x ∧ w = .str x) ∨ (∃ i, v = .int i ∧ w = .int i) ∨ (∃ b, v = .bl b ∧ w = .bl b) ∨ (v = .non ∧ w = .non) ∨
      ∃ a b xs ys, v = .ref a ∧ w = .ref b ∧ ((H a = some (.lst xs) ∧ H b = some (.lst ys)) ∨ (H a = some (.tup xs) ∧ H b = some (.tup ys))) ∧ ys.length = xs.length ∧ ∀ (j : Nat) x y, xs[j]? = some x → ys[j]? = some y → Sm H n x y
theorem Sm.mono {H H' : Hp} (s : Same H H') : ∀ {n : Nat} {v w : V}, Sm H n v w → Sm H' n v w
  | 0, _, _, h => h.elim
  | n + 1, v, w, h => by
    rcases h with h | h | h | h | ⟨a, b, xs, ys, e1, e2, h1, h2, h4⟩
    · exact .inl h
    · exact .inr (.inl h)
    · exact .inr (.inr (.inl h))
    · exact .inr (.inr (.inr (.inl h)))
    · refine .inr (.inr (.inr (.inr ⟨a, b, xs, ys, e1, e2, ?_, h2, fun j x y q1 q2 => Sm.mono s (h4 j x y q1 q2)⟩)))
      rcases h1 with ⟨q1, q2⟩ | ⟨q1, q2⟩
      · exact .inl ⟨s _ _ q1, s _ _ q2⟩
      · exact .inr ⟨s _ _ q1, s _ _ q2⟩
end Tre
set_option Elab.async false
set_option linter.all false
set_option maxRecDepth 100000
set_option maxHeartbeats 1000000
namespace Tre
open PySem PySem.Spec PyProof.Rows L2
section
variable {X : Cx}
theorem any_of {H : Hp} {t : Tr} {e : Value → Bool} : ∀ {xs : List V} {us : List Value} {ts : List Tr}, Vals xs us → TrsAt H xs ts → (∀ v u s, RelV v u → TrAt H v s → e u = eqT s t) → us.any e = ts.any fun s => eqT s t
  | _, _, [], r, h, _ => by
    unfold TrsAt at h
    subst h
    cases r
    rfl
  | _, _, s :: ts, r, h, he => by
    unfold TrsAt at h
    obtain ⟨v, q, rfl, h1, h2⟩ := h
    cases r with
    | cons r1 r2 => rw [List.any_cons, List.any_cons, any_of r2 h2 he, he _ _ _ r1 h1]
end
end Tre
set_option Elab.async false
set_option linter.all false
set_option maxRecDepth 100000
set_option maxHeartbeats 1000000
namespace Tre
open PySem PySem.Spec PyProof.Rows L2
section
variable {X : Cx}
def SqE (H : Hp) (p : Addr) (xs : List V) : Prop := H p = some (.lst xs) ∨ H p = some (.tup xs)
def rIn (b : Bool) : R2 := fun x y H Q => ∃ p xs ts t, y = .ref p ∧ SqE H p xs ∧ TrsAt H xs ts ∧ TrAt H x t ∧ (∀ u ∈ ts, u.depth ≤ 40) ∧ t.pure ∧ Q (.bl ((ts.any fun u => eqT u t) == b)) H
theorem in_items {pins : List (Addr × Obj)} {s : Shared} {σ : L2.St} {H : Hp} {xs : List V} {ts : List Tr} {t : Tr} {x : V} {v : Value} {its : List Value} (hu : X.A.units + 50 < cLine) (I : Inv X pins σ H s) (rx : RelV x v) (r : Vals xs its) (hT : TrsAt H xs ts) (ht : TrAt H x t) (hd : ∀ u ∈ ts, u.depth ≤ 40) (hpu : t.pure) :
    ∃ e : Value → Bool, (∀ w, w ∈ its.toArray → SeqAt.EqAt X.A.in1 s w v (e w)) ∧ its.toArray.any e = ts.any fun s => eqT s t := by
  classical
  have he : ∀ v' u' s', RelV v' u' → TrAt H v' s' → decide (∃ v s, RelV v u' ∧ TrAt H v s ∧ eqT s t = true) = eqT s' t := fun v' u' s' r' h' => by
    cases e : eqT s' t with
    | true => exact decide_eq_true ⟨v', s', r', h', e⟩
    | false =>
      refine decide_eq_false ?_
      rintro ⟨v2, s2, r2, h2, e2⟩
      cases r2.inj r'
      rw [TrAt.det h2 h', e] at e2
      cases e2
  refine ⟨fun u' => decide (∃ v s, RelV v u' ∧ TrAt H v s ∧ eqT s t = true), fun w hw => ?_, ?_⟩
  · have hw' : w ∈ its := by simpa using hw
    obtain ⟨j, hj, ej⟩ := List.getElem_of_mem hw'
    have l1 := r.length
    have l2 := hT.len
    have t1 : ts[j]? = some (ts[j]'(by omega)) := List.getElem?_eq_getElem _
    obtain ⟨v', e1, a1⟩ := hT.get t1
    obtain ⟨u', e2, q2⟩ := r.get e1
    rw [List.getElem?_eq_getElem hj, ej] at e2
    cases e2
    dsimp only
    rw [he _ _ _ q2 a1]
    exact tr_eqAt I 40 (hd _ (List.mem_of_getElem? t1)) (.inr hpu) a1 ht q2 rx (by show X.A.units + 1 + 40 + 1 < cLine; omega)
  · rw [List.any_toArray]
    exact any_of r hT he
theorem beq_t (b : Bool) : (b == true) = b := by cases b <;> rfl
theorem beq_f (b : Bool) : (b == false) = !b := by cases b <;> rfl
theorem op_inE (hu : X.A.units + 50 < cLine) : OpR X (compareOp .In) (rIn true) := by
  intro pins s σ H x y v u Q I rx ry h
  obtain ⟨p, xs, ts, t, rfl, hp, hT, ht, hd, hpu, q⟩ := h
  cases ry
  rcases hp with hp | hp
  · obtain ⟨its, r, pl, hz⟩ := I.list (SqL.of hp)
    obtain ⟨e, h1, h2⟩ := in_items hu I rx r hT ht hd hpu
    refine SeqAt.in_listAt e pl.isList h1 ⟨.bl _, H, I, rfl, ?_⟩
    rw [h2, ← beq_t (ts.any fun s => eqT s t)]
    exact q
  · obtain ⟨its, r, pl, hz⟩ := I.tuple (SqT.of hp)
    obtain ⟨e, h1, h2⟩ := in_items hu I rx r hT ht hd hpu
    refine SeqAt.in_tupleAt e (show s.heap.IsTuple p its.toArray from pl) h1 ⟨.bl _, H, I, rfl, ?_⟩
    rw [h2, ← beq_t (ts.any fun s => eqT s t)]
    exact q
theorem op_outE (hu : X.A.units + 50 < cLine) : OpR X (compareOp .NotIn) (rIn false) := by
  intro pins s σ H x y v u Q I rx ry h
  obtain ⟨p, xs, ts, t, rfl, hp, hT, ht, hd, hpu, q⟩ := h
  cases ry
  rcases hp with hp | hp
  · obtain ⟨its, r, pl, hz⟩ := I.list (SqL.of hp)
    obtain ⟨e, h1, h2⟩ := in_items hu I rx r hT ht hd hpu
    refine SeqAt.notIn_listAt e pl.isList h1 ⟨.bl _, H, I, rfl, ?_⟩
    rw [h2, ← beq_f (ts.any fun s => eqT s t)]
    exact q
  · obtain ⟨its, r, pl, hz⟩ := I.tuple (SqT.of hp)
    obtain ⟨e, h1, h2⟩ := in_items hu I rx r hT ht hd hpu
    refine SeqAt.notIn_tupleAt e (show s.heap.IsTuple p its.toArray from pl) h1 ⟨.bl _, H, I, rfl, ?_⟩
    rw [h2, ← beq_f (ts.any fun s => eqT s t)]
    exact q
end
end Tre
namespace L2
open PySem PySem.Spec PyProof.Rows
section
variable {X : Cx}
end
end L2
set_option Elab.async false
set_option linter.all false
set_option maxRecDepth 100000
set_option maxHeartbeats 1000000
namespace Wd
open PySem L2 Tre Mth Dj
def FlG (kF : List (Key × V)) : Prop := ∀ x v, valV kF (.inr x) = some v → ∃ b, v = V.bl b
def VaG (H : Hp) (kV : List (Key × V)) : Prop := ∀ x v, valV kV (.inr x) = some v → ∃ p, TrAt H v (frT p) ∧ Gv p
def CaG (H : Hp) (kC : List Ent) : Prop := ∀ k v, valJ kC k = some v → ∃ p, TrAt H v (frT p) ∧ Gv p
structure WS (P : Program) (w : World) (K : PySem.W.Frag) (H : Hp) (F D C : Addr) (n : Nat) : Prop where
  ne : F ≠ D
  fl : ∃ kF, H F = some (.dK kF) ∧ FlG kF ∧ kF.length ≤ n
  va : ∃ kV, H D = some (.dK kV) ∧ VaG H kV ∧ kV.length ≤ n
  ca : ∃ kC, DJ P w K H C kC ∧ CaG H kC ∧ kC.length ≤ n
theorem VaG.mono {H H' : Hp} {kV : List (Key × V)} (k : Kd H H') (h : VaG H kV) : VaG H' kV := fun x v e => by
  obtain ⟨p, h1, h2⟩ := h x v e
  exact ⟨p, h1.mono k, h2⟩
theorem CaG.mono {H H' : Hp} {kC : List Ent} (k : Kd H H') (h : CaG H kC) : CaG H' kC := fun x v e => by
  obtain ⟨p, h1, h2⟩ := h x v e
  exact ⟨p, h1.mono k, h2⟩
section
variable {P : Program} {w : World} {K : PySem.W.Frag} {H H' : Hp} {F D C : Addr} {n : Nat}
theorem WS.kd (h : WS P w K H F D C n) (k : Kd H H') (hs : ∀ a o, a = F ∨ a = D ∨ a = C → H a = some o → H' a = some o) : WS P w K H' F D C n := by
  obtain ⟨kF, f1, f2, f3⟩ := h.fl
  obtain ⟨kV, v1, v2, v3⟩ := h.va
  obtain ⟨kC, c1, c2, c3⟩ := h.ca
  exact ⟨h.ne, ⟨kF, hs _ _ (.inl rfl) f1, f2, f3⟩, ⟨kV, hs _ _ (.inr (.inl rfl)) v1, v2.mono k, v3⟩, ⟨kC, c1.kd k (hs _ _ (.inr (.inr rfl)) c1.at_), c2.mono k, c3⟩⟩
theorem WS.same (h : WS P w K H F D C n) (s : Same H H') : WS P w K H' F D C n := h.kd (Kd.of_same s) fun a o _ e => s a o e
theorem WS.mono {m : Nat} (h : WS P w K H F D C n) (hn : n ≤ m) : WS P w K H F D C m := by
  obtain ⟨kF, f1, f2, f3⟩ := h.fl
  obtain ⟨kV, v1, v2, v3⟩ := h.va
  obtain ⟨kC, c1, c2, c3⟩ := h.ca
  exact ⟨h.ne, ⟨kF, f1, f2, by omega⟩, ⟨kV, v1, v2, by omega⟩, ⟨kC, c1, c2, by omega⟩⟩
end
def WAt (P : Program) (w : World) (K : PySem.W.Frag) (H : Hp) (v : V) (W : Wld) : Prop := ∃ r F D C kF kV kC, v = .ref r ∧ H r = some (.tup [.ref F, .ref D, .ref C]) ∧
  (H F = some (.dK kF) ∧ ∀ x, (valV kF (.inr x)).getD (.bl false) = .bl (W.fl x)) ∧
  (H D = some (.dK kV) ∧ ∀ x, (∃ u, valV kV (.inr x) = some u ∧ TrAt H u (frT (W.va x))) ∨ (valV kV (.inr x) = none ∧ W.va x = zero)) ∧
  (DJ P w K H C kC ∧ ∀ k, (∃ u, valJ kC k = some u ∧ TrAt H u (frT (W.ca k))) ∨ (valJ kC k = none ∧ W.ca k = zero))
section
variable {P : Program} {w : World} {K : PySem.W.Frag} {H H' : Hp} {F D C r : Addr} {n : Nat} {v : V} {W : Wld}
theorem WS.at_ (h : WS P w K H F D C n) (e : H r = some (.tup [.ref F, .ref D, .ref C])) : ∃ W : Wld, W.Ok ∧ WAt P w K H (.ref r) W := by
  obtain ⟨kF, f1, f2, f3⟩ := h.fl
  obtain ⟨kV, v1, v2, v3⟩ := h.va
  obtain ⟨kC, c1, c2, c3⟩ := h.ca
  have hF : ∀ x : Str, ∃ b, (valV kF (.inr x)).getD (.bl false) = .bl b := fun x => by
    cases q : valV kF (.inr x) with
    | none => exact ⟨false, rfl⟩
    | some v =>
      obtain ⟨b, rfl⟩ := f2 x v q
      exact ⟨b, rfl⟩
  have hV : ∀ x : Str, ∃ p, Gv p ∧ ((∃ u, valV kV (.inr x) = some u ∧ TrAt H u (frT p)) ∨ (valV kV (.inr x) = none ∧ p = zero)) := fun x => by
    cases q : valV kV (.inr x) with
    | none => exact ⟨zero, gv_zero, .inr ⟨rfl, rfl⟩⟩
    | some v =>
      obtain ⟨p, h1, h2⟩ := v2 x v q
      exact ⟨p, h2, .inl ⟨v, rfl, h1⟩⟩
  have hC : ∀ k : List Tk.KT, ∃ p, Gv p ∧ ((∃ u, valJ kC k = some u ∧ TrAt H u (frT p)) ∨ (valJ kC k = none ∧ p = zero)) := fun k => by
    cases q : valJ kC k with
    | none => exact ⟨zero, gv_zero, .inr ⟨rfl, rfl⟩⟩
    | some v =>
      obtain ⟨p, h1, h2⟩ := c2 k v q
      exact ⟨p, h2, .inl ⟨v, rfl, h1⟩⟩
  exact ⟨⟨fun x => Classical.choose (hF x), fun x => Classical.choose (hV x), fun k => Classical.choose (hC k)⟩, ⟨fun x => (Classical.choose_spec (hV x)).1, fun k => (Classical.choose_spec (hC k)).1⟩,
    r, F, D, C, kF, kV, kC, rfl, e, ⟨f1, fun x => Classical.choose_spec (hF x)⟩, ⟨v1, fun x => (Classical.choose_spec (hV x)).2⟩, ⟨c1, fun k => (Classical.choose_spec (hC k)).2⟩⟩
theorem WAt.kd (h : WAt P w K H v W) (k : Kd H H') (hs : ∀ a o, (∀ xs, o ≠ .lst xs) → H a = some o → H' a = some o) : WAt P w K H' v W := by
  obtain ⟨r, F, D, C, kF, kV, kC, e, h1, ⟨h2, h3⟩, ⟨h4, h5⟩, h6, h7⟩ := h
  refine ⟨r, F, D, C, kF, kV, kC, e, k.tup _ _ h1, ⟨hs _ _ (fun _ z => by cases z) h2, h3⟩, ⟨hs _ _ (fun _ z => by cases z) h4, fun x => ?_⟩, h6.kd k (hs _ _ (fun _ z => by cases z) h6.at_), fun j => ?_⟩
  · rcases h5 x with ⟨u, e1, e2⟩ | q
    · exact .inl ⟨u, e1, e2.mono k⟩
    · exact .inr q
  · rcases h7 j with ⟨u, e1, e2⟩ | q
    · exact .inl ⟨u, e1, e2.mono k⟩
    · exact .inr q
theorem WAt.same (h : WAt P w K H v W) (s : Same H H') : WAt P w K H' v W := h.kd (Kd.of_same s) fun a o _ e => s a o e
end
theorem kd_fr : ∀ ps : List Fr, Tk.KTs.depth (ps.map frK) ≤ 1
  | [] => by simp [Tk.KTs.depth]
  | p :: ps => by
    have := kd_fr ps
    simp only [List.map_cons, Tk.KTs.depth, frK, Tk.KT.depth]
    omega
def FrAt (K : PySem.W.Frag) (H : Hp) (v : V) (p : Fr) : Prop := ∃ r, v = .ref r ∧ SqX K H r [.int p.1, .int p.2]
def FrsAt (K : PySem.W.Frag) (H : Hp) : List V → List Fr → Prop
  | vs, [] => vs = []
  | vs, p :: ps => ∃ v r, vs = v :: r ∧ FrAt K H v p ∧ FrsAt K H r ps
theorem FrAt.mono {K : PySem.W.Frag} {H H' : Hp} {v : V} {p : Fr} (d : Kd H H') (h : FrAt K H v p) : FrAt K H' v p := by
  obtain ⟨r, e, s⟩ := h
  exact ⟨r, e, s.mono d⟩
theorem FrsAt.mono {K : PySem.W.Frag} {H H' : Hp} (d : Kd H H') : ∀ {vs : List V} {ps : List Fr}, FrsAt K H vs ps → FrsAt K H' vs ps
  | vs, [], h => h
  | vs, p :: ps, h => by
    obtain ⟨v, r, e, h1, h2⟩ := h
    exact ⟨v, r, e, h1.mono d, FrsAt.mono d h2⟩
theorem FrsAt.snoc {K : PySem.W.Frag} {H : Hp} {u : V} {q : Fr} (hu : FrAt K H u q) : ∀ {vs : List V} {ps : List Fr}, FrsAt K H vs ps → FrsAt K H (vs ++ [u]) (ps ++ [q])
  | vs, [], h => by
    cases (show vs = [] from h)
    exact ⟨u, [], rfl, hu, rfl⟩
  | vs, p :: ps, h => by
    obtain ⟨v, r, rfl, h1, h2⟩ := h
    exact ⟨v, r ++ [u], rfl, h1, FrsAt.snoc hu h2⟩
theorem kvts_fr {K : PySem.W.Frag} {H : Hp} : ∀ {vs : List V} {ps : List Fr}, FrsAt K H vs ps → KVts K H vs (ps.map frK)
  | vs, [], h => by
    rw [List.map_nil, KVts]
    exact h
  | vs, p :: ps, h => by
    obtain ⟨v, r, e, ⟨q, e1, s⟩, h2⟩ := h
    rw [List.map_cons, KVts]
    refine ⟨v, r, e, ?_, kvts_fr h2⟩
    rw [frK, KVt]
    refine ⟨q, _, e1, s, ?_⟩
    rw [KVts]
    refine ⟨_, _, rfl, by rw [KVt], ?_⟩
    rw [KVts]
    refine ⟨_, _, rfl, by rw [KVt], ?_⟩
    rw [KVts]
theorem key_of {K : PySem.W.Frag} {H : Hp} {q r : Addr} {x : Str} {vs : List V} {ps : List Fr} (h : H q = some (.tup [.str x, .ref r])) (h2 : H r = some (.tup vs)) (h3 : FrsAt K H vs ps) : KeyAt K H [.lf (.inr x), .tp (ps.map frK)] q := by
  refine ⟨_, .inl h, ?_, ?_⟩
  · rw [KVts]
    refine ⟨_, _, rfl, by rw [KVt], ?_⟩
    rw [KVts]
    refine ⟨_, _, rfl, ?_, by rw [KVts]⟩
    rw [KVt]
    exact ⟨r, vs, rfl, .inl h2, kvts_fr h3⟩
  · have := kd_fr ps
    simp only [Tk.KT.depth, Tk.KTs.depth]
    omega
end Wd
set_option Elab.async false
set_option linter.all false
set_option maxRecDepth 100000
set_option maxHeartbeats 1000000
namespace L2
open PySem Tre Wd
theorem seq_any {t rest : TS} {Z : Ends} {σ : L2.St} {H : Hp} (R : L2.St → Hp → Prop) (hR : ∀ σ' H', R σ' H' → rest Z σ' H') (h : ∀ nx : L2.St → Hp → Prop, (∀ σ' H', R σ' H' → nx σ' H') → t { Z with nx := nx } σ H) : tSeq t rest Z σ H := h _ hR
theorem gname_of {i : Nat} {v : V} {σ : L2.St} {H : Hp} {k : L2.St → Hp → Prop} (h : k (σ.set i (some v)) H) : gName i v σ H k := h
theorem tnx_of {Z : Ends} {σ : L2.St} {H : Hp} (h : Z.nx σ H) : tNext Z σ H := h
theorem tret_of {te : TE} {Z : Ends} {σ : L2.St} {H : Hp} (h : te σ H Z.rt) : tRet te Z σ H := h
theorem tcons1 {te : TE} {σ : L2.St} {H : Hp} {Q : List V → Hp → Prop} (h : te σ H fun v H1 => Q [v] H1) : tCons te tNil σ H Q := h
theorem first_at {H : Hp} {v : V} {x : Str} {r : List Tr} (h : TrAt H v (.tup (.str x :: r))) : ∃ a vs, v = .ref a ∧ H a = some (.tup (.str x :: vs)) ∧ TrsAt H vs r := by
  unfold TrAt at h
  obtain ⟨a, vs, e, h1, h2⟩ := h
  obtain ⟨y, r1, rfl, h3, h4⟩ := h2.inv
  unfold TrAt at h3
  subst h3
  exact ⟨a, r1, e, h1, h4⟩
theorem at2 {H : Hp} {v : V} {k : Str} {t : Tr} (h : TrAt H v (.tup [.str k, t])) : ∃ a y, v = .ref a ∧ H a = some (.tup [.str k, y]) ∧ TrAt H y t := by
  obtain ⟨a, vs, e, h1, h2⟩ := first_at h
  obtain ⟨y, r, rfl, h3, h4⟩ := h2.inv
  unfold TrsAt at h4
  subst h4
  exact ⟨a, y, e, h1, h3⟩
theorem at3 {H : Hp} {v : V} {k : Str} {t u : Tr} (h : TrAt H v (.tup [.str k, t, u])) : ∃ a y z, v = .ref a ∧ H a = some (.tup [.str k, y, z]) ∧ TrAt H y t ∧ TrAt H z u := by
  obtain ⟨a, vs, e, h1, h2⟩ := first_at h
  obtain ⟨y, r, rfl, h3, h4⟩ := h2.inv
  obtain ⟨z, r2, rfl, h5, h6⟩ := h4.inv
  unfold TrsAt at h6
  subst h6
  exact ⟨a, y, z, e, h1, h3, h5⟩
theorem at_s {H : Hp} {v : V} {x : Str} (h : TrAt H v (.str x)) : v = .str x := by
  unfold TrAt at h
  exact h
theorem at_t {H : Hp} {v : V} {ts : List Tr} (h : TrAt H v (.tup ts)) : ∃ a vs, v = .ref a ∧ H a = some (.tup vs) ∧ TrsAt H vs ts := by
  unfold TrAt at h
  exact h
theorem at_str {H : Hp} {x : Str} : TrAt H (.str x) (.str x) := by unfold TrAt; rfl
theorem at_tup {H : Hp} {r : Addr} {vs : List V} {ts : List Tr} (h : H r = some (.tup vs)) (h1 : TrsAt H vs ts) : TrAt H (.ref r) (.tup ts) := by
  unfold TrAt
  exact ⟨r, vs, rfl, h, h1⟩
theorem pair_at {H : Hp} {v : V} {a b : Tr} (h : TrAt H v (.tup [a, b])) : ∃ r x y, v = .ref r ∧ H r = some (.tup [x, y]) ∧ TrAt H x a ∧ TrAt H y b := by
  unfold TrAt at h
  obtain ⟨r, vs, e, h1, h2⟩ := h
  obtain ⟨x, r1, rfl, h3, h4⟩ := h2.inv
  obtain ⟨y, r2, rfl, h5, h6⟩ := h4.inv
  unfold TrsAt at h6
  subst h6
  exact ⟨r, x, y, e, h1, h3, h5⟩
theorem ints_at {H : Hp} {v : V} {a b : Int} (h : TrAt H v (.tup [.int a, .int b])) : ∃ r, v = .ref r ∧ H r = some (.tup [.int a, .int b]) := by
  obtain ⟨r, x, y, e, h1, h2, h3⟩ := pair_at h
  unfold TrAt at h2 h3
  subst h2 h3
  exact ⟨r, e, h1⟩
theorem at_pair {H : Hp} {r : Addr} {x y : V} {a b : Tr} (h : H r = some (.tup [x, y])) (h1 : TrAt H x a) (h2 : TrAt H y b) : TrAt H (.ref r) (.tup [a, b]) := by
  unfold TrAt
  exact ⟨r, _, rfl, h, .cons h1 (.cons h2 .nil)⟩
theorem at_ints {H : Hp} {r : Addr} {a b : Int} (h : H r = some (.tup [.int a, .int b])) : TrAt H (.ref r) (.tup [.int a, .int b]) := at_pair h (by unfold TrAt; rfl) (by unfold TrAt; rfl)
theorem at_fr {H : Hp} {v : V} {p : Fr} (h : TrAt H v (frT p)) : ∃ r, v = .ref r ∧ H r = some (.tup [.int p.1, .int p.2]) := ints_at h
theorem depths_le {n : Nat} : ∀ {ts : List Tr}, (∀ t ∈ ts, t.depth ≤ n) → Trs.depth ts ≤ n
  | [], _ => by unfold Trs.depth; omega
  | t :: ts, h => by
    unfold Trs.depth
    have h1 := h t List.mem_cons_self
    have h2 := depths_le fun u m => h u (List.mem_cons_of_mem t m)
    omega
end L2
set_option Elab.async false
set_option linter.all false
set_option maxRecDepth 100000
set_option maxHeartbeats 1000000
namespace L2
open PySem PySem.Spec PyProof.Rows
section
variable {X : Cx}
end
end L2
namespace Tre
open PySem L2
theorem TrsAt.set {H : Hp} {v : V} {t : Tr} (hv : TrAt H v t) : ∀ {vs : List V} {ts : List Tr} {i : Nat}, TrsAt H vs ts → TrsAt H (vs.set i v) (ts.set i t)
  | vs, [], i, h => by
    unfold TrsAt at h
    subst h
    simp
    exact .nil
  | vs, u :: ts, 0, h => by
    obtain ⟨w, r, rfl, h1, h2⟩ := h.inv
    exact .cons hv h2
  | vs, u :: ts, i + 1, h => by
    obtain ⟨w, r, rfl, h1, h2⟩ := h.inv
    exact .cons h1 (TrsAt.set hv h2)
theorem tm_tup {t : Tr} (h : Ty .tm t) : ∃ ts, t = .tup ts := by
  cases h <;> exact ⟨_, rfl⟩
end Tre
namespace Su
open PySem L2 Tre Mth Wd
structure Gq (e : Nat) (p : Pq) : Prop where
  ty : Ty .tm p.1
  dep : p.1.depth ≤ 7
  gf : Gf e p.2
  sh : Sh p.2
theorem Gq.mono {m n : Nat} {p : Pq} (h : Gq m p) (hn : m ≤ n) : Gq n p := ⟨h.ty, h.dep, h.gf.mono hn, h.sh⟩
theorem Gq.pr {e : Nat} {p : Pq} (h : Gq e p) : Ty .pr (prT p) ∧ (prT p).depth ≤ 8 := by
  refine ⟨.pr _ _ h.ty (.fr _ _), ?_⟩
  have := h.dep
  unfold prT frT
  simp only [Tr.depth, Trs.depth]
  omega
end Su
namespace Su
open PySem L2 Tre Mth Wd
def negF (f : Fr) : Fr := (-f.1, f.2)
def neg (p : Pq) : Pq := (p.1, negF p.2)
def m1 : Fr := (-1, 1)
def p1 : Fr := (1, 1)
end Su
namespace L2
end L2
set_option Elab.async false
set_option linter.all false
set_option maxRecDepth 100000
set_option maxHeartbeats 1000000
namespace L2
open PySem PySem.Spec PyProof.Rows
section
variable {X : Cx}
theorem strsAre_of : ∀ {ys : List Str} {us : List Value}, Vals (ys.map V.str) us → StrsAre us ys
  | [], _, r => by cases r; exact .nil
  | y :: ys, _, r => by
    rw [List.map_cons] at r
    cases r with
    | cons r1 r2 =>
      obtain ⟨t, rfl⟩ := r1
      exact .cons y t (strsAre_of r2)
def rJoin (K : PySem.W.Frag) : V → List V → Hp → VK → Prop := fun x vs H Q => ∃ (sep : Str) (l : Addr) (ys : List Str), x = .str sep ∧ vs = [.ref l] ∧ SqL K H l (ys.map V.str) ∧ (ys.map (·.length)).sum + ys.length * sep.length ≤ 16777216 ∧ Q (.str (Txt.join sep ys)) H
theorem mt_join : MtM X "str.join" (rJoin X.K) := by
  intro pins s σ H x vs v us Q I rx rv h
  obtain ⟨sep, l, ys, rfl, rfl, hl, hz, q⟩ := h
  obtain ⟨t, rfl⟩ := rx
  obtain ⟨u, rfl, ru⟩ := rv.one
  cases ru
  obtain ⟨its, r, p, _⟩ := I.list hl
  exact PyProof.Rows.join_list p.isList (by simpa using strsAre_of r) hz fun t' k => ⟨.str _, H, I.tok k, ⟨_, rfl⟩, q⟩
end
section
variable {X : Cx}
end
end L2
set_option Elab.async false
set_option linter.all false
set_option maxRecDepth 100000
set_option maxHeartbeats 1000000
namespace Dec
open PySem PySem.NumText L2 Mth
theorem cl_join : ∀ (ys : List Str), cl (Txt.join (Str.ofString "") ys) = (ys.map cl).flatten := by
  intro ys
  have e : Txt.join (Str.ofString "") ys = Str.join (Str.ofString "") ys := StrLaws.glued_eq_join _ _
  have e0 : cl (Str.ofString "") = [] := by decide +kernel
  rw [e]
  induction ys with
  | nil => rfl
  | cons y ys ih =>
    cases ys with
    | nil =>
      show cl y = [cl y].flatten
      simp
    | cons z ys =>
      have e2 : Str.join (Str.ofString "") (y :: z :: ys) = y ++ Str.ofString "" ++ Str.join (Str.ofString "") (z :: ys) := rfl
      rw [e2, cl_app, cl_app, e0, ih (StrLaws.glued_eq_join _ _)]
      simp
theorem cl_str (m : Nat) : cl (Str.ofString (toString ((m : Nat) : Int))) = ds m := PySem.W.KIN.signs_num m
theorem flat_len : ∀ (ps : List Str), ((ps.map cl).flatten).length = (ps.map (·.length)).sum
  | [] => rfl
  | p :: ps => by
    simp only [List.map_cons, List.flatten_cons, List.length_append, List.sum_cons]
    rw [flat_len ps, cl_len]
theorem flat_rev (ps : List Str) : ((ps.reverse.map cl).flatten).length = (ps.map (·.length)).sum := by
  rw [flat_len, List.map_reverse, List.sum_reverse]
theorem sum_ge : ∀ {ps : List Str}, (∀ p ∈ ps, 0 < p.length) → ps.length ≤ (ps.map (·.length)).sum
  | [], _ => Nat.le_refl _
  | p :: ps, h => by
    have h1 := h p List.mem_cons_self
    have h2 := sum_ge fun q m => h q (List.mem_cons_of_mem p m)
    simp only [List.map_cons, List.sum_cons, List.length_cons]
    omega
theorem log_lt {m : Nat} (h : m < 10 ^ 200) : ((m : Nat) : Int).natAbs.log2 < 1920 := by
  rw [Int.natAbs_natCast]
  by_cases z : m = 0
  · subst z
    decide
  · rw [Nat.log2_lt z]
    exact Nat.lt_of_lt_of_le h (by decide +kernel)
theorem ab_nat (x : Int) : (if x < 0 then -x else x) = (x.natAbs : Int) := by split <;> omega
theorem e_cl : cl (Str.ofString "") = [] := by decide +kernel
theorem m_cl : cl (Str.ofString "-") = [45] := by decide +kernel
theorem s_cl : cl (Str.ofString "/") = [47] := by decide +kernel
theorem len_app (x y : Str) : (x ++ y).length = x.length + y.length := by rw [← cl_len, cl_app, List.length_append, cl_len, cl_len]
theorem txt_len {x y : Int} (hx : x.natAbs < 10 ^ 200) (hy : y.natAbs < 10 ^ 200) : (txt x y).length ≤ 402 := by
  unfold txt sg low
  have h1 := ds_len 199 hx
  have h2 := ds_len 199 hy
  simp only [List.length_append]
  split <;> split <;> simp <;> omega
end Dec
namespace Tw
open PySem L2 Tre Wd Mth Dec Su
mutual
def tmC : Tr → List Nat
  | .tup (_ :: .str x :: r) => match r with
    | [] => cl x
    | t :: _ => 40 :: cl x ++ tmK t ++ [41]
  | _ => []
def tmK : Tr → List Nat
  | .tup ts => tmsC ts
  | _ => []
def tmsC : List Tr → List Nat
  | [] => []
  | t :: ts => 32 :: tmC t ++ tmsC ts
end
theorem tm_name (k x : Str) : tmC (.tup [.str k, .str x]) = cl x := by rw [tmC]
theorem tm_call (k x : Str) (ts : List Tr) : tmC (.tup [.str k, .str x, .tup ts]) = 40 :: cl x ++ tmsC ts ++ [41] := by rw [tmC, tmK]
def spC (cs : List (List Nat)) : List Nat := (cs.map (32 :: ·)).flatten
theorem tmsC_eq : ∀ ts, tmsC ts = spC (ts.map tmC)
  | [] => by rw [tmsC]; rfl
  | t :: ts => by
    rw [tmsC, tmsC_eq ts]
    rfl
theorem spC_app (a b : List (List Nat)) : spC (a ++ b) = spC a ++ spC b := by
  unfold spC
  rw [List.map_append, List.flatten_append]
theorem spC_one (c : List Nat) : spC [c] = 32 :: c := by simp [spC]
theorem spC_len {B : Nat} : ∀ {cs : List (List Nat)}, (∀ c ∈ cs, c.length ≤ B) → (spC cs).length ≤ cs.length * (B + 1)
  | [], _ => Nat.zero_le _
  | c :: cs, h => by
    have h1 := h c List.mem_cons_self
    have h2 := spC_len fun d m => h d (List.mem_cons_of_mem c m)
    have e : spC (c :: cs) = (32 :: c) ++ spC cs := rfl
    rw [e, List.length_append, List.length_cons, List.length_cons, Nat.succ_mul]
    omega
theorem name_len {k x : Str} {d : Nat} (h : x.length ≤ 8) : (tmC (.tup [.str k, .str x])).length ≤ 13 * 4 ^ d := by
  rw [tm_name, cl_len]
  have := Nat.pow_pos (n := d) (show 0 < 4 by decide)
  omega
theorem call_len {k x : Str} {ts : List Tr} {d : Nat} (h : x.length ≤ 8) (h3 : ts.length ≤ 3) (h0 : 0 < d) (hw : ∀ t ∈ ts, (tmC t).length ≤ 13 * 4 ^ (d - 1)) : (tmC (.tup [.str k, .str x, .tup ts])).length ≤ 13 * 4 ^ d := by
  obtain ⟨e, rfl⟩ : ∃ e, d = e + 1 := ⟨d - 1, by omega⟩
  rw [tm_call, tmsC_eq]
  rw [show e + 1 - 1 = e by omega] at hw
  have h2 := spC_len (B := 13 * 4 ^ e) (cs := ts.map tmC) (fun c m => by
    obtain ⟨t, mt, rfl⟩ := List.mem_map.mp m
    exact hw t mt)
  rw [List.length_map] at h2
  have h4 : ts.length * (13 * 4 ^ e + 1) ≤ 3 * (13 * 4 ^ e + 1) := Nat.mul_le_mul_right _ h3
  have h5 := Nat.pow_pos (n := e) (show 0 < 4 by decide)
  simp only [List.length_append, List.length_cons, List.length_nil, cl_len]
  rw [Nat.pow_succ]
  omega
theorem sp_cl : cl (Str.ofString " ") = [32] := by decide +kernel
theorem lp_cl : cl (Str.ofString "(") = [40] := by decide +kernel
theorem rp_cl : cl (Str.ofString ")") = [41] := by decide +kernel
theorem cl_joinS (y : Str) (ys : List Str) : cl (Txt.join (Str.ofString " ") (y :: ys)) = cl y ++ spC (ys.map cl) := by
  have e : Txt.join (Str.ofString " ") (y :: ys) = Str.join (Str.ofString " ") (y :: ys) := StrLaws.glued_eq_join _ _
  rw [e]
  clear e
  induction ys generalizing y with
  | nil =>
    show cl y = cl y ++ spC []
    simp [spC]
  | cons z ys ih =>
    have e2 : Str.join (Str.ofString " ") (y :: z :: ys) = y ++ Str.ofString " " ++ Str.join (Str.ofString " ") (z :: ys) := rfl
    rw [e2, cl_app, cl_app, sp_cl, ih z]
    simp [spC]
theorem sum_le {B : Nat} : ∀ {ys : List Str}, (∀ y ∈ ys, y.length ≤ B) → (ys.map (·.length)).sum ≤ ys.length * B
  | [], _ => Nat.zero_le _
  | y :: ys, h => by
    have h1 := h y List.mem_cons_self
    have h2 := sum_le fun z m => h z (List.mem_cons_of_mem y m)
    simp only [List.map_cons, List.sum_cons, List.length_cons]
    rw [Nat.succ_mul]
    omega
def frC (p : Fr) : List Nat := txt p.1 p.2
theorem ten200 : (2 : Nat) ^ 200 ≤ 10 ^ 200 := Nat.pow_le_pow_left (by decide) _
theorem Gfl {p : Fr} (h : Gf 200 p) : p.1.natAbs < 10 ^ 200 ∧ p.2.natAbs < 10 ^ 200 := ⟨Nat.lt_of_lt_of_le h.top ten200, Nat.lt_of_lt_of_le h.bot ten200⟩
theorem frC_len {p : Fr} (h : Gf 200 p) : (frC p).length ≤ 402 := txt_len (Gfl h).1 (Gfl h).2
structure Tb (t : Tr) : Prop where
  ty : Ty .tm t
  dep : t.depth ≤ 7
  len : (tmC t).length ≤ 1000
structure Pb (p : Pq) : Prop where
  tb : Tb p.1
  gf : Gf 200 p.2
def prC (p : Pq) : List (List Nat) := [frC p.2, tmC p.1]
def hd (k : Str) : List Nat := 40 :: cl k
inductive Wx : Nat → Tr → List Nat → Prop
  | fl (n : Nat) (x : Str) : x.length ≤ 8 → Wx n (.tup [s_ "flag", .str x]) (cl x)
  | mo (n : Nat) (ps : List Pq) (f : Fr) : ps.length ≤ 3 → (∀ p ∈ ps, Pb p) → Gf 200 f → Wx n (.tup [s_ "most", .tup (ps.map prT), frT f]) (hd "most" ++ spC (ps.flatMap prC ++ [frC f]) ++ [41])
  | li (n : Nat) (t u : Tr) : Tb t → Tb u → Wx n (.tup [s_ "like", t, u]) (hd "like" ++ spC [tmC t, tmC u] ++ [41])
  | no (n : Nat) (t : Tr) (c : List Nat) : Wx n t c → Wx (n + 1) (.tup [s_ "not", t]) (hd "not" ++ spC [c] ++ [41])
  | bo (n : Nat) (l : List (Tr × List Nat)) : l.length ≤ 3 → (∀ p ∈ l, Wx n p.1 p.2) → Wx (n + 1) (.tup [s_ "both", .tup (l.map (·.1))]) (hd "all" ++ spC (l.map (·.2)) ++ [41])
  | ei (n : Nat) (l : List (Tr × List Nat)) : l.length ≤ 3 → (∀ p ∈ l, Wx n p.1 p.2) → Wx (n + 1) (.tup [s_ "either", .tup (l.map (·.1))]) (hd "any" ++ spC (l.map (·.2)) ++ [41])
theorem hd_len : (hd "most").length = 5 ∧ (hd "like").length = 5 ∧ (hd "not").length = 4 ∧ (hd "all").length = 4 ∧ (hd "any").length = 4 := by decide +kernel
theorem prs_len {ps : List Pq} (h : ∀ p ∈ ps, Pb p) : ∀ c ∈ ps.flatMap prC, c.length ≤ 1000 := fun c m => by
  obtain ⟨p, mp, mc⟩ := List.mem_flatMap.mp m
  have hp := h p mp
  rcases List.mem_cons.mp mc with rfl | mc
  · have := frC_len hp.gf
    omega
  · rw [List.mem_singleton.mp mc]
    exact hp.tb.len
theorem prs_many (ps : List Pq) : (ps.flatMap prC).length = 2 * ps.length := by
  induction ps with
  | nil => rfl
  | cons p ps ih =>
    rw [List.flatMap_cons, List.length_append, ih, List.length_cons]
    show 2 + _ = _
    omega
theorem Wx.len {n : Nat} {t : Tr} {c : List Nat} (h : Wx n t c) : c.length ≤ 8000 * 4 ^ n := by
  have hh := hd_len
  induction h with
  | fl n x h =>
    rw [cl_len]
    have := Nat.pow_pos (n := n) (show 0 < 4 by decide)
    omega
  | mo n ps f h1 h2 h3 =>
    have h4 := spC_len (B := 1000) (cs := ps.flatMap prC ++ [frC f]) (fun c m => by
      rcases List.mem_append.mp m with m | m
      · exact prs_len h2 c m
      · rw [List.mem_singleton.mp m]
        have := frC_len h3
        omega)
    rw [List.length_append, prs_many, List.length_singleton] at h4
    have h5 : (2 * ps.length + 1) * (1000 + 1) ≤ 7 * 1001 := Nat.mul_le_mul_right _ (by omega)
    have := Nat.pow_pos (n := n) (show 0 < 4 by decide)
    simp only [List.length_append, List.length_singleton, hh.1]
    omega
  | li n t u h1 h2 =>
    have h3 := h1.len
    have h4 := h2.len
    have := Nat.pow_pos (n := n) (show 0 < 4 by decide)
    simp only [List.length_append, List.length_singleton, hh.2.1, spC, List.map_cons, List.map_nil, List.flatten_cons, List.flatten_nil, List.length_cons, List.length_nil]
    omega
  | no n t c _ ih =>
    have := Nat.pow_pos (n := n) (show 0 < 4 by decide)
    rw [spC_one, Nat.pow_succ]
    simp only [List.length_append, List.length_singleton, hh.2.2.1, List.length_cons, List.length_nil]
    omega
  | bo n l h1 h2 ih =>
    have h4 := spC_len (B := 8000 * 4 ^ n) (cs := l.map (·.2)) (fun c m => by
      obtain ⟨p, mp, rfl⟩ := List.mem_map.mp m
      exact ih p mp)
    rw [List.length_map] at h4
    have h5 : l.length * (8000 * 4 ^ n + 1) ≤ 3 * (8000 * 4 ^ n + 1) := Nat.mul_le_mul_right _ h1
    have := Nat.pow_pos (n := n) (show 0 < 4 by decide)
    rw [Nat.pow_succ]
    simp only [List.length_append, List.length_singleton, hh.2.2.2.1]
    omega
  | ei n l h1 h2 ih =>
    have h4 := spC_len (B := 8000 * 4 ^ n) (cs := l.map (·.2)) (fun c m => by
      obtain ⟨p, mp, rfl⟩ := List.mem_map.mp m
      exact ih p mp)
    rw [List.length_map] at h4
    have h5 : l.length * (8000 * 4 ^ n + 1) ≤ 3 * (8000 * 4 ^ n + 1) := Nat.mul_le_mul_right _ h1
    have := Nat.pow_pos (n := n) (show 0 < 4 by decide)
    rw [Nat.pow_succ]
    simp only [List.length_append, List.length_singleton, hh.2.2.2.2]
    omega
theorem pow_le {n : Nat} (h : n ≤ 3) : 8000 * 4 ^ n ≤ 512000 := by
  have : 4 ^ n ≤ 4 ^ 3 := Nat.pow_le_pow_right (by decide) h
  omega
end Tw
set_option Elab.async false
set_option linter.all false
set_option maxRecDepth 100000
set_option maxHeartbeats 1000000
namespace K77
open PySem PySem.NumText L2 Mth Dec Tre Wd
abbrev PW : Nat := 10 ^ 64
section
variable {P : Program} {w : World} {K : PySem.W.Frag} {mg : Str → Option Value} {base : Heap}
def spFg : Sp := fun vs H Q _ => ∃ (n : Nat), vs = [.int (n : Int)] ∧ n < 10 ^ 200 ∧ ∀ (z : Str) (H' : Hp), Same H H' → cl z = ds n → Q (.str z) H'
theorem scFg : FnScope ["number", "pieces"] ["number"] (defScope sFg) := ⟨rfl, rfl, rfl, by decide +kernel, rfl, by decide +kernel, by decide +kernel⟩
theorem ok_fg {f : Addr} {fd : FuncData} {tp tw : Tok} (F : Fun K "figures_of" "figures_of" sFg f fd) (B : Blt mg) (mP : mg "PIECE" = some (.int 64 tp)) (mW : mg "PIECE_WORTH" = some (.int ((PW : Nat) : Int) tw)) : FnOk P w K mg base CX0 1 f fd ["number"] spFg := by
  refine F.ok scFg (fun vs H Q E h => ?_) (fun cdv A outer s H vs Q E hr h => ?_)
  · obtain ⟨n, rfl, _⟩ := h
    rfl
  obtain ⟨n, rfl, hn, k⟩ := h
  refine ⟨_, pss_cons (ps_set (i := 1) scFg.nd rfl (Or.inl rfl) (pe_lst pa_nil))
    (pss_cons (ps_while PassesOwn.never (pt_cmpR op_ge (pv 0) (pe_glob (v := .int ((PW : Nat) : Int)) rfl mW ⟨_, rfl⟩) (nomark _))
      (pss_cons (ps_expr (pe_bm PySem.F.plainAttrs_list PySem.F.slot_list_append PySem.F.type_list_append mt_append (pv 1) (pa_cons
          (pe_bm PySem.F.plainAttrs_str PySem.F.slot_str_zfill PySem.F.type_str_zfill mt_zfill (pe_callTy call_str_int rfl B.st PyProof.Rows.boot_str (pa_cons (pe_op op_mod (pv 0) (pe_glob (v := .int ((PW : Nat) : Int)) rfl mW ⟨_, rfl⟩)) pa_nil)) (pa_cons (pe_glob (v := .int 64) rfl mP ⟨_, rfl⟩) pa_nil)) pa_nil)))
      (pss_one (ps_set (i := 0) scFg.nd rfl (Or.inl rfl) (pe_op op_fdivB (pv 0) (pe_glob (v := .int ((PW : Nat) : Int)) rfl mW ⟨_, rfl⟩))))))
    (pss_one (ps_ret (pe_op op_add_str (pe_callTy call_str_int rfl B.st PyProof.Rows.boot_str (pa_cons (pv 0) pa_nil)) (pe_joinR rfl rfl B.rv (pv 1)))))), ?_⟩
  have hL : (20000 : Nat) ≤ sizeLine := by decide +kernel
  refine ⟨by show 0 ≤ sizeLine; decide, fun L nL => ?_⟩
  refine while_by (fun σ H' => Same H H' ∧ ∃ (m : Nat) (ps : List Str), σ = [some (.int (m : Int)), some (.ref L)] ∧ H' L = some (.lst (ps.map V.str)) ∧ (∀ p ∈ ps, 0 < p.length) ∧ m ≤ n ∧ ds n = ds m ++ (ps.reverse.map cl).flatten)
    (fun σ _ => match σ with | [some (.int y), _] => y.natAbs | _ => 0) ⟨same_upd nL, n, [], rfl, upd_same, (fun p m => by cases m), Nat.le_refl _, by simp⟩ ?_ ?_
  · rintro σ H' ⟨sH, m, ps, rfl, hLs, hp, hm, e⟩
    have hm200 : m < 10 ^ 200 := Nat.lt_of_le_of_lt hm hn
    have hlen := congrArg List.length e
    rw [List.length_append, flat_rev] at hlen
    have hn2 := ds_len 199 hn
    have hps := sum_ge hp
    refine ⟨_, rfl, _, _, rfl, rfl, _, rfl, ?_⟩
    by_cases z : ((PW : Nat) : Int) ≤ (m : Int)
    · have zN : PW ≤ m := by omega
      rw [decide_eq_true z]
      refine iteT ?_
      have er : (m : Int) % ((PW : Nat) : Int) = ((m % PW : Nat) : Int) := (Int.natCast_emod m PW).symm
      have ed : (m : Int) / ((PW : Nat) : Int) = ((m / PW : Nat) : Int) := (Int.natCast_ediv m PW).symm
      have hr64 : m % PW < PW := Nat.mod_lt _ (Nat.pow_pos (by decide))
      have key : cl (Str.ofString (toString ((m : Int) % ((PW : Nat) : Int)))) = ds (m % PW) := by rw [er]; exact cl_str _
      have hlog : ((m : Int) % ((PW : Nat) : Int)).natAbs.log2 < 1920 := by rw [er]; exact log_lt (Nat.lt_of_lt_of_le hr64 (by decide +kernel))
      have hz := cl_zfill (k := 63) key hr64
      refine ⟨_, rfl, .inl ⟨rfl, _, SqL.of hLs⟩, _, rfl, _, _, rfl, rfl, by show (0 : Int) < ((PW : Nat) : Int); decide +kernel, _, rfl, hlog, rfl, _, 64, rfl, rfl, by decide +kernel, L, _, _, rfl, rfl, hLs, by rw [List.length_map]; omega, ?_⟩
      refine ⟨_, rfl, _, _, rfl, rfl, ⟨by show (0 : Int) < ((PW : Nat) : Int); decide +kernel, by show (((PW : Nat) : Int)).natAbs < 2 ^ 8000; decide +kernel⟩, ?_⟩
      refine ⟨⟨same_wr nL sH, m / PW, ps ++ [Txt.zfill (Str.ofString (toString ((m : Int) % ((PW : Nat) : Int)))) 64], ?_, ?_, fun p mp => ?_, Nat.le_trans (Nat.div_le_self _ _) hm, ?_⟩, ?_⟩
      · rw [← ed]
        rfl
      · rw [upd_same, List.map_append]
        rfl
      · rcases List.mem_append.mp mp with mp | mp
        · exact hp p mp
        · rw [List.mem_singleton.mp mp, ← cl_len]
          show 0 < (cl (Txt.zfill _ ((63 + 1 : Nat) : Int))).length
          rw [hz, pad_len]
          decide
      · have e2 := ds_app (q := m / PW) (Nat.div_pos zN (Nat.pow_pos (by decide))) 64 (r := m % PW) hr64
        rw [Nat.div_add_mod'] at e2
        rw [e, e2, List.reverse_append, List.append_assoc]
        show _ = ds (m / PW) ++ ((Txt.zfill _ ((63 + 1 : Nat) : Int) :: ps.reverse).map cl).flatten
        rw [List.map_cons, List.flatten_cons, hz]
      · show ((m : Int) / ((PW : Nat) : Int)).natAbs < ((m : Int)).natAbs
        rw [ed, Int.natAbs_natCast, Int.natAbs_natCast]
        exact Nat.div_lt_self (by omega) (by decide +kernel)
    · rw [decide_eq_false z]
      refine iteF ?_
      have hj : (Txt.join (Str.ofString "") ps.reverse).length = (ps.map (·.length)).sum := by rw [← cl_len, cl_join, flat_rev]
      have hs : (Str.ofString (toString (m : Int))).length = (ds m).length := by rw [← cl_len, cl_str]
      have e0 : (Str.ofString "").length = 0 := by decide +kernel
      refine ⟨_, rfl, _, rfl, log_lt hm200, _, rfl, L, ps, rfl, hLs, by rw [e0]; omega, _, _, rfl, rfl, by rw [hj, hs]; omega, ?_⟩
      refine k _ H' sH ?_
      rw [cl_app, cl_join, cl_str, e]
  · intro σ H' R R' hR h
    obtain ⟨v, e1, a, b, e2, e3, q, e4, h⟩ := h
    exact ⟨v, e1, a, b, e2, e3, q, e4, hR _ _ h⟩
def spFt (K : PySem.W.Frag) : Sp := fun vs H Q _ => ∃ (p : Addr) (x y : Int), vs = [.ref p] ∧ SqT K H p [.int x, .int y] ∧ 0 < y ∧ x.natAbs < 10 ^ 200 ∧ y.natAbs < 10 ^ 200 ∧ ∀ (z : Str) (H' : Hp), Same H H' → cl z = txt x y → Q (.str z) H'
theorem scFt : FnScope ["one", "top", "bottom", "sign", "share"] ["one"] (defScope sFt) := ⟨rfl, rfl, rfl, by decide +kernel, rfl, by decide +kernel, by decide +kernel⟩
theorem ok_ft {f fG : Addr} {fd fdG : FuncData} (F : Fun K "fraction_text" "fraction_text" sFt f fd) (B : Blt mg) (GG : FnOk P w K mg base CX0 1 fG fdG ["number"] spFg) (kG : PySem.W.keepIn K (.ref fG) = true) (bG : Binds K fdG ["number"] []) (mG : mg "figures_of" = some (.ref fG)) : FnOk P w K mg base CX0 2 f fd ["one"] (spFt K) := by
  refine F.ok scFt (fun vs H Q E h => ?_) (fun cdv A outer s H vs Q E hr h => ?_)
  · obtain ⟨p, x, y, rfl, _⟩ := h
    rfl
  obtain ⟨p, x, y, rfl, hp, y0, hx, hy, k⟩ := h
  refine ⟨_, pss_cons (ps_asg (pv 0) (pg_tup rfl (pgs_cons (pg_name (i := 1) scFt.nd rfl (Or.inl rfl)) (pgs_cons (pg_name (i := 2) scFt.nd rfl (Or.inl rfl)) pgs_nil))))
    (pss_cons (ps_set (i := 3) scFt.nd rfl (Or.inl rfl) (pe_ifExp (pt_cmpR op_lt (pv 1) pe_int (nomark _)) pe_str pe_str))
    (pss_cons (ps_set (i := 4) scFt.nd rfl (Or.inl rfl) (pe_ifExp (pt_cmpR op_eq (pv 2) pe_int (nomark _)) pe_str (pe_op op_add_str pe_str (pe_call GG hr rfl mG kG bG .nil pass0 (pa_cons (pv 2) pa_nil)))))
    (pss_one (ps_ret (pe_op op_add_str (pe_op op_add_str (pv 3) (pe_call GG hr rfl mG kG bG .nil pass0 (pa_cons (pe_callB call_abs rfl B.ab boot_abs (pa_cons (pv 1) pa_nil)) pa_nil))) (pv 4)))))), ?_⟩
  have hL : (20000 : Nat) ≤ sizeLine := by decide +kernel
  have l1 := ds_len 199 hx
  have l2 := ds_len 199 hy
  have ey : ((y.natAbs : Nat) : Int) = y := by omega
  refine ⟨_, rfl, p, _, rfl, hp, rfl, _, _, rfl, _, _, rfl, rfl, ?_⟩
  have last : ∀ (H1 : Hp) (sT hT : Str), Same H H1 → cl sT = sg x → cl hT = (if y = 1 then [] else 47 :: ds y.natAbs) →
      (tRet (tOp (fun x y H Q => ∃ i j, x = .str i ∧ y = .str j ∧ i.length + j.length ≤ sizeLine ∧ Q (.str (i ++ j)) H) (tOp (fun x y H Q => ∃ i j, x = .str i ∧ y = .str j ∧ i.length + j.length ≤ sizeLine ∧ Q (.str (i ++ j)) H) (tVar 3) (tCall spFg [] E0 (tCons (tCB (fun xs H Q => ∃ i, xs = [.int i] ∧ Q (.int (if i < 0 then -i else i)) H) (tCons (tVar 1) tNil)) tNil))) (tVar 4)))
        { nx := fun _ H' => Q .non H', rt := Q } [some (.ref p), some (.int x), some (.int y), some (.str sT), some (.str hT)] H1 := by
    intro H1 sT hT s1 es eh
    have a1 : sT.length ≤ 1 := by
      rw [← cl_len, es]
      unfold sg
      split <;> simp
    have a2 : hT.length ≤ 201 := by
      rw [← cl_len, eh]
      split <;> simp <;> omega
    refine ⟨_, rfl, _, rfl, x, rfl, x.natAbs, by rw [ab_nat]; rfl, hx, fun z H2 s2 ez => ?_⟩
    have a3 : z.length ≤ 200 := by rw [← cl_len, ez]; exact l1
    refine ⟨_, _, rfl, rfl, by omega, _, rfl, _, _, rfl, rfl, by rw [len_app]; omega, ?_⟩
    refine k _ H2 (s1.trans s2) ?_
    rw [cl_app, cl_app, es, ez, eh]
    unfold txt low
    rw [List.append_assoc]
  have share : ∀ sT : Str, cl sT = sg x → (tSeq (tAsg (tIf (tB (tOp rEq (tVar 2) (tC (.int 1)))) (tC (.str (Str.ofString ""))) (tOp (fun x y H Q => ∃ i j, x = .str i ∧ y = .str j ∧ i.length + j.length ≤ sizeLine ∧ Q (.str (i ++ j)) H) (tC (.str (Str.ofString "/"))) (tCall spFg [] E0 (tCons (tVar 2) tNil)))) (gName 4))
      (tRet (tOp (fun x y H Q => ∃ i j, x = .str i ∧ y = .str j ∧ i.length + j.length ≤ sizeLine ∧ Q (.str (i ++ j)) H) (tOp (fun x y H Q => ∃ i j, x = .str i ∧ y = .str j ∧ i.length + j.length ≤ sizeLine ∧ Q (.str (i ++ j)) H) (tVar 3) (tCall spFg [] E0 (tCons (tCB (fun xs H Q => ∃ i, xs = [.int i] ∧ Q (.int (if i < 0 then -i else i)) H) (tCons (tVar 1) tNil)) tNil))) (tVar 4))))
        { nx := fun _ H' => Q .non H', rt := Q } [some (.ref p), some (.int x), some (.int y), some (.str sT), none] H := by
    intro sT es
    refine ⟨_, rfl, rfl, _, rfl, ?_⟩
    by_cases e : y = 1
    · rw [decide_eq_true (show V.int y = V.int 1 by rw [e])]
      refine iteT ?_
      exact last H sT _ (Same.refl H) es (by rw [if_pos e]; exact e_cl)
    · rw [decide_eq_false (show ¬ V.int y = V.int 1 from fun q => e (V.int.inj q))]
      refine iteF ?_
      refine ⟨_, rfl, y.natAbs, by rw [ey]; rfl, hy, fun z H2 s2 ez => ?_⟩
      have a3 : z.length ≤ 200 := by rw [← cl_len, ez]; exact l2
      have a4 : (Str.ofString "/").length = 1 := by decide +kernel
      refine ⟨_, _, rfl, rfl, by omega, ?_⟩
      exact last H2 sT _ s2 es (by rw [if_neg e, cl_app, s_cl, ez]; rfl)
  refine ⟨_, rfl, _, _, rfl, rfl, _, rfl, ?_⟩
  by_cases e : x < 0
  · rw [decide_eq_true e]
    refine iteT ?_
    exact share _ (by unfold sg; rw [if_pos e]; exact m_cl)
  · rw [decide_eq_false e]
    refine iteF ?_
    exact share _ (by unfold sg; rw [if_neg e]; exact e_cl)
end
end K77
set_option Elab.async false
set_option linter.all false
set_option maxRecDepth 100000
set_option maxHeartbeats 1000000
namespace K77
open PySem L2 Mth Dec Tre Wd Tw
section
variable {P : Program} {w : World} {K : PySem.W.Frag} {mg : Str → Option Value} {base : Heap}
def spBr (K : PySem.W.Frag) : Sp := fun vs H Q _ => ∃ (l : Addr) (y : Str) (ys : List Str), vs = [.ref l] ∧ SqL K H l ((y :: ys).map V.str) ∧ y.length ≤ 1000 ∧ ys.length ≤ 10 ∧ (∀ z ∈ ys, z.length ≤ 600000) ∧ ∀ z, cl z = 40 :: cl y ++ spC (ys.map cl) ++ [41] → Q (.str z) H
theorem scBr : FnScope ["words"] ["words"] (defScope sBr) := ⟨rfl, rfl, rfl, by decide +kernel, rfl, by decide +kernel, by decide +kernel⟩
theorem ok_br {f : Addr} {fd : FuncData} (F : Fun K "bracketed" "bracketed" sBr f fd) : FnOk P w K mg base CX0 1 f fd ["words"] (spBr K) := by
  refine F.ok scBr (fun vs H Q E h => ?_) (fun cdv A outer s H vs Q E hr h => ?_)
  · obtain ⟨l, y, ys, rfl, _⟩ := h
    rfl
  obtain ⟨l, y, ys, rfl, hl, hy, hn, hz, k⟩ := h
  refine ⟨_, pss_one (ps_ret (pe_op op_add_str (pe_op op_add_str pe_str (pe_bm PySem.F.plainAttrs_str PySem.F.slot_str_join PySem.F.type_str_join mt_join pe_str (pa_cons (pv 0) pa_nil))) pe_str)), ?_⟩
  have e1 : (Str.ofString " ").length = 1 := by decide +kernel
  have e2 : (Str.ofString "(").length = 1 := by decide +kernel
  have e3 : (Str.ofString ")").length = 1 := by decide +kernel
  have hs := sum_le hz
  have hm : ys.length * 600000 ≤ 10 * 600000 := Nat.mul_le_mul_right _ hn
  have hj : (Txt.join (Str.ofString " ") (y :: ys)).length ≤ 6002000 := by
    have h2 := spC_len (B := 600000) (cs := ys.map cl) (fun c m => by
      obtain ⟨z, mz, rfl⟩ := List.mem_map.mp m
      rw [cl_len]
      exact hz z mz)
    rw [List.length_map] at h2
    have h3 : ys.length * (600000 + 1) ≤ 10 * 600001 := Nat.mul_le_mul_right _ hn
    rw [← cl_len, cl_joinS, List.length_append, cl_len]
    omega
  have hL : (16000000 : Nat) ≤ sizeLine := by decide +kernel
  refine ⟨rfl, _, rfl, _, l, y :: ys, rfl, rfl, hl, by rw [e1]; simp only [List.map_cons, List.sum_cons, List.length_cons]; omega, _, _, rfl, rfl, by rw [e2]; omega, _, _, rfl, rfl, by rw [Dec.len_app, e2, e3]; omega, k _ ?_⟩
  rw [cl_app, cl_app, lp_cl, rp_cl, cl_joinS]
  simp
def spSt (n : Nat) : Sp := fun vs H Q _ => ∃ (v : V) (t : Tr), vs = [v] ∧ TrAt H v t ∧ Ty .tm t ∧ t.depth < n ∧ (tmC t).length ≤ 1000 ∧ ∀ z H', Same H H' → cl z = tmC t → Q (.str z) H'
theorem scSt : FnScope ["term"] ["term"] (defScope sSt) := ⟨rfl, rfl, rfl, by decide +kernel, rfl, by decide +kernel, by decide +kernel⟩
theorem tm_sub {ts : List Tr} {t : Tr} (m : t ∈ ts) : (tmC t).length ≤ (tmsC ts).length := by
  rw [tmsC_eq]
  obtain ⟨a, b, rfl⟩ := List.append_of_mem m
  rw [List.map_append, spC_app, List.map_cons]
  show _ ≤ (_ ++ ((32 :: tmC t) ++ spC (b.map tmC))).length
  simp only [List.length_append, List.length_cons]
  omega
theorem ok_st {f fB : Addr} {fd fdB : FuncData} (F : Fun K "shown_term" "shown_term" sSt f fd) (bF : Binds K fd ["term"] []) (mF : mg "shown_term" = some (.ref f)) (FB : Fun K "bracketed" "bracketed" sBr fB fdB) (bB : Binds K fdB ["words"] []) (mB : mg "bracketed" = some (.ref fB)) :
    ∀ n, FnOk P w K mg base CX0 (n + 1) f fd ["term"] (spSt n) := by
  have GB : FnOk P w K mg base CX0 1 fB fdB ["words"] (spBr K) := ok_br FB
  intro n
  induction n with
  | zero => exact ⟨fun vs H Q E ⟨_, _, _, _, _, h, _⟩ => absurd h (by omega), fun A outer s H args us vs Q E _ _ _ _ ⟨_, _, _, _, _, h, _⟩ => absurd h (by omega)⟩
  | succ n ih =>
    refine F.ok scSt (fun vs H Q E h => ?_) (fun cdv A outer s H vs Q E hr h => ?_)
    · obtain ⟨v, t, rfl, _⟩ := h
      rfl
    obtain ⟨v, t, rfl, hv, hw, hd, hl, k⟩ := h
    have hr1 : Room 1 _ := hr.mono (by omega)
    refine ⟨_, pss_cons (ps_if (pt_cmpR op_eq (pe_ix ix_tup (pv 0) pe_int fun _ _ => rfl) pe_str (nomark _)) (pss_one (ps_ret (pe_ix ix_tup (pv 0) pe_int fun _ _ => rfl))) pss_nil)
      (pss_one (ps_ret (pe_call GB hr1 rfl mB FB.kp bB .nil pass0 (pa_cons (pe_op op_cat (pe_lst (pa_cons (pe_ix ix_tup (pv 0) pe_int fun _ _ => rfl) pa_nil))
        (pe_comp (NC := ["inner"]) (mp := [none]) rfl (pi_tup (pe_ix ix_tup (pv 0) pe_int fun _ _ => rfl)) (fun _ _ _ _ _ => pg_name (i := 0) (show (["inner"] : List Str).Nodup by decide +kernel) rfl (Or.inl rfl)) (fun _ _ _ _ _ => pts_nil) (fun _ _ _ _ _ => pe_call ih hr rfl mF F.kp bF .nil pass0 (pa_cons (pv 0) pa_nil)))) pa_nil)))), ?_⟩
    cases hw with
    | nm x =>
      obtain ⟨r, y, rfl, h1, h2⟩ := at2 hv
      have h3 := at_s h2
      subst h3
      refine ⟨_, rfl, r, _, 0, .str "name", rfl, rfl, SqT.of h1, rfl, rfl, _, rfl, ?_⟩
      rw [decide_eq_true rfl]
      refine iteT ⟨_, rfl, r, _, 1, .str x, rfl, rfl, SqT.of h1, rfl, ?_⟩
      exact k _ H (Same.refl H) (tm_name _ _).symm
    | ap g ts ht3 hty =>
      obtain ⟨r, y, z, rfl, h1, h2, h3⟩ := at3 hv
      have e2 := at_s h2
      subst e2
      obtain ⟨q, vs, rfl, h4, h5⟩ := at_t h3
      refine ⟨_, rfl, r, _, 0, .str "call", rfl, rfl, SqT.of h1, rfl, rfl, _, rfl, ?_⟩
      rw [decide_eq_false (show ¬ V.str "call" = V.str "name" by decide +kernel)]
      refine iteF ?_
      refine ⟨_, rfl, r, _, 1, .str g, rfl, rfl, SqT.of h1, rfl, by show 1 ≤ sizeLine; decide, fun l nl => ?_⟩
      have s1 : Same H (upd H l (.lst [.str g])) := same_upd nl
      refine tcomp_of rfl ?_
      refine ⟨_, rfl, r, _, 2, .ref q, rfl, rfl, SqT.of (s1 _ _ h1), rfl, q, rfl, ⟨vs, SqT.of (s1 _ _ h4)⟩, fun D nD => ?_⟩
      have hlen := h5.len
      have hL : (100000 : Nat) ≤ sizeLine := by decide +kernel
      have hl' := hl
      unfold s_ at hl'
      rw [tm_call] at hl'
      simp only [List.length_append, List.length_cons, cl_len] at hl'
      refine comp_tup (xs := vs) (fun i acc H' => Same (upd H l (.lst [.str g])) H' ∧ H' D = some (.lst acc) ∧ ∃ ys : List Str, acc = ys.map V.str ∧ ys.map cl = (ts.take i).map tmC) ⟨same_upd nD, upd_same, [], rfl, rfl⟩ (fun i acc H' p => SqT.of (p.1 _ _ (s1 _ _ h4))) ?_ ?_
      · rintro i x acc H' hi ex ⟨sH, hD, ys, rfl, ey⟩
        obtain ⟨t, et, htt⟩ := h5.get' ex
        have mt := List.mem_of_getElem? et
        have hsub := tm_sub mt
        have yl := congrArg List.length ey
        rw [List.length_map, List.length_map, List.length_take] at yl
        refine ⟨_, rfl, x, t, rfl, htt.mono (Kd.of_same (s1.trans sH)), hty t mt, ?_, by omega, fun z H6 s6 ez => CompN.mk hi ?_ (s6 _ _ hD) ⟨same_wr nD (sH.trans s6), upd_same, ys ++ [z], by rw [List.map_append]; rfl, ?_⟩⟩
        · have hd2 := hd
          simp only [Tr.depth, Trs.depth] at hd2
          have := depth_memT mt
          omega
        · rw [List.length_map]
          omega
        · rw [List.map_append, ey, List.take_add_one, et]
          simp [ez]
      · rintro acc H' ⟨sH, hD, ys, rfl, ey⟩
        rw [hlen, List.take_length] at ey
        have hl2 : H' l = some (.lst [.str g]) := sH _ _ upd_same
        have yl := congrArg List.length ey
        rw [List.length_map, List.length_map] at yl
        refine ⟨l, D, [.str g], _, rfl, rfl, hl2, hD, by simp only [List.length_map, List.length_cons, List.length_nil]; omega, fun p np => ?_⟩
        refine ⟨p, g, ys, rfl, SqL.of ?_, by omega, by omega, fun y my => ?_, fun z ez => ?_⟩
        · rw [upd_same]
          rfl
        · have : cl y ∈ ts.map tmC := by rw [← ey]; exact List.mem_map_of_mem my
          obtain ⟨t, mt, e⟩ := List.mem_map.mp this
          have := tm_sub mt
          rw [← cl_len, ← e]
          omega
        · refine k z _ (s1.trans (sH.trans (same_upd np))) ?_
          unfold s_
          rw [ez, tm_call, tmsC_eq, ey]
end
end K77
set_option Elab.async false
set_option linter.all false
set_option maxRecDepth 100000
set_option maxHeartbeats 1000000
namespace Tw
open PySem PyProof.Rows L2 Tre Wd Mth Dec Su
inductive Wi : Nat → Str → Tr → List (List Nat) → Prop
  | mo (n : Nat) (ps : List Pq) (f : Fr) : ps.length ≤ 3 → (∀ p ∈ ps, Pb p) → Gf 200 f → Wi n "most" (.tup [s_ "most", .tup (ps.map prT), frT f]) (ps.flatMap prC ++ [frC f])
  | li (n : Nat) (t u : Tr) : Tb t → Tb u → Wi n "like" (.tup [s_ "like", t, u]) [tmC t, tmC u]
  | no (n : Nat) (t : Tr) (c : List Nat) : Wx n t c → Wi (n + 1) "not" (.tup [s_ "not", t]) [c]
  | bo (n : Nat) (l : List (Tr × List Nat)) : l.length ≤ 3 → (∀ p ∈ l, Wx n p.1 p.2) → Wi (n + 1) "both" (.tup [s_ "both", .tup (l.map (·.1))]) (l.map (·.2))
  | ei (n : Nat) (l : List (Tr × List Nat)) : l.length ≤ 3 → (∀ p ∈ l, Wx n p.1 p.2) → Wi (n + 1) "either" (.tup [s_ "either", .tup (l.map (·.1))]) (l.map (·.2))
def FwP (k k' : Str) : Prop := (k = "not" ∧ k' = "not") ∨ (k = "both" ∧ k' = "all") ∨ (k = "either" ∧ k' = "any") ∨ (k = "like" ∧ k' = "like") ∨ (k = "most" ∧ k' = "most")
theorem FwP.len {k k' : Str} (h : FwP k k') : k'.length ≤ 10 := by
  rcases h with ⟨_, rfl⟩ | ⟨_, rfl⟩ | ⟨_, rfl⟩ | ⟨_, rfl⟩ | ⟨_, rfl⟩ <;> decide +kernel
theorem Wx.inner {n : Nat} {t : Tr} {c : List Nat} (h : Wx n t c) : (∃ x : Str, t = .tup [s_ "flag", .str x] ∧ c = cl x ∧ x.length ≤ 8) ∨ ∃ k k' cs, Wi n k t cs ∧ FwP k k' ∧ c = hd k' ++ spC cs ++ [41] := by
  cases h with
  | fl _ x h => exact .inl ⟨x, rfl, rfl, h⟩
  | mo _ ps f h1 h2 h3 => exact .inr ⟨_, _, _, .mo n ps f h1 h2 h3, .inr (.inr (.inr (.inr ⟨rfl, rfl⟩))), rfl⟩
  | li _ t u h1 h2 => exact .inr ⟨_, _, _, .li n t u h1 h2, .inr (.inr (.inr (.inl ⟨rfl, rfl⟩))), rfl⟩
  | no m t c h => exact .inr ⟨_, _, _, .no m t c h, .inl ⟨rfl, rfl⟩, rfl⟩
  | bo m l h1 h2 => exact .inr ⟨_, _, _, .bo m l h1 h2, .inr (.inl ⟨rfl, rfl⟩), rfl⟩
  | ei m l h1 h2 => exact .inr ⟨_, _, _, .ei m l h1 h2, .inr (.inr (.inl ⟨rfl, rfl⟩)), rfl⟩
theorem Wi.head {n : Nat} {k : Str} {t : Tr} {cs : List (List Nat)} (h : Wi n k t cs) : (∃ r, t = .tup (.str k :: r)) ∧ k ≠ "flag" := by
  cases h with
  | mo _ ps f h1 h2 h3 => exact ⟨⟨_, rfl⟩, by decide +kernel⟩
  | li _ t u h1 h2 => exact ⟨⟨_, rfl⟩, by decide +kernel⟩
  | no m t c h => exact ⟨⟨_, rfl⟩, by decide +kernel⟩
  | bo m l h1 h2 => exact ⟨⟨_, rfl⟩, by decide +kernel⟩
  | ei m l h1 h2 => exact ⟨⟨_, rfl⟩, by decide +kernel⟩
theorem Wi.small {n : Nat} {k : Str} {t : Tr} {cs : List (List Nat)} (h : Wi n k t cs) (hn : n ≤ 3) : cs.length ≤ 10 ∧ ∀ c ∈ cs, c.length ≤ 600000 := by
  cases h with
  | mo _ ps f h1 h2 h3 =>
    refine ⟨by rw [List.length_append, prs_many, List.length_singleton]; omega, fun c m => ?_⟩
    rcases List.mem_append.mp m with m | m
    · have := prs_len h2 c m
      omega
    · rw [List.mem_singleton.mp m]
      have := frC_len h3
      omega
  | li _ t u h1 h2 =>
    have := h1.len
    have := h2.len
    refine ⟨by simp, fun c m => ?_⟩
    rcases List.mem_cons.mp m with rfl | m
    · omega
    · rw [List.mem_singleton.mp m]
      omega
  | no m t c h =>
    refine ⟨by simp, fun d md => ?_⟩
    rw [List.mem_singleton.mp md]
    have := h.len
    have := pow_le (n := m) (by omega)
    omega
  | bo m l h1 h2 =>
    refine ⟨by rw [List.length_map]; omega, fun d md => ?_⟩
    obtain ⟨p, mp, rfl⟩ := List.mem_map.mp md
    have := (h2 p mp).len
    have := pow_le (n := m) (by omega)
    omega
  | ei m l h1 h2 =>
    refine ⟨by rw [List.length_map]; omega, fun d md => ?_⟩
    obtain ⟨p, mp, rfl⟩ := List.mem_map.mp md
    have := (h2 p mp).len
    have := pow_le (n := m) (by omega)
    omega
def rIxF (D : Addr) : R2 := fun x y H Q => ∃ k k', x = .ref D ∧ y = .str k ∧ FwP k k' ∧ Q (.str k') H
structure FwK (w : World) (K : PySem.W.Frag) (D : Addr) : Prop where
  lk : ∃ es n, K.lookup D = some ⟨.type "dict", none, .dict es n, #[]⟩ ∧ PySem.W.KeysLit w.params es.toList
  at_ : ∀ k k', FwP k k' → ∃ t, PySem.W.nsIn K D k = some (some (.str k' t))
section
variable {X : Cx} {D : Addr}
theorem ix_dictF (h : FwK X.w X.K D) : IxR X (rIxF D) := by
  intro value slice pins s σ H x y v u Q I rx ry hq hs
  obtain ⟨k, k', rfl, rfl, hf, q⟩ := hq
  cases rx
  obtain ⟨t, rfl⟩ := ry
  obtain ⟨es, n, hl, hk⟩ := h.lk
  obtain ⟨t', hn⟩ := h.at_ k k' hf
  have hm := PySem.W.mapOf_K (prog := X.prog) I.kIn hl hk
  exact subscriptTail_builtinR (x := .str k' t') hm.typeIs slot_dict_getitem.lookup
    (wpAny_getItem_of (Q := fun r s' => r = .str k' t' ∧ EP X pins σ Q r s') (strKind_is X.prog X.w k t) hm (PySem.W.find_K hl hn) ⟨rfl, .str k', H, I.tok _, ⟨t', rfl⟩, q⟩) hs
end
end Tw
set_option Elab.async false
set_option linter.all false
set_option maxRecDepth 100000
set_option maxHeartbeats 1000000
namespace K77
open PySem L2 Mth Dec Tre Wd Su Tw
section
variable {P : Program} {w : World} {K : PySem.W.Frag} {mg : Str → Option Value} {base : Heap}
def spTs : Sp := fun vs H Q _ => ∃ (v : V) (ps : List Pq), vs = [v] ∧ TrAt H v (.tup (ps.map prT)) ∧ ps.length ≤ 3 ∧ (∀ p ∈ ps, Pb p) ∧ ∀ (l : Addr) (ys : List Str) (H' : Hp), Same H H' → H' l = some (.lst (ys.map V.str)) → ys.map cl = ps.flatMap prC → Q (.ref l) H'
theorem scTs : FnScope ["pairs", "texts", "term", "share"] ["pairs"] (defScope sTs) := ⟨rfl, rfl, rfl, by decide +kernel, rfl, by decide +kernel, by decide +kernel⟩
theorem ok_ts {f fT fF : Addr} {fd dT dF : FuncData} (F : Fun K "sum_texts" "sum_texts" sTs f fd)
    (gT : FnOk P w K mg base CX0 9 fT dT ["term"] (spSt 8)) (kT : PySem.W.keepIn K (.ref fT) = true) (bT : Binds K dT ["term"] []) (mT : mg "shown_term" = some (.ref fT))
    (gF : FnOk P w K mg base CX0 2 fF dF ["one"] (spFt K)) (kF : PySem.W.keepIn K (.ref fF) = true) (bF : Binds K dF ["one"] []) (mF : mg "fraction_text" = some (.ref fF)) : FnOk P w K mg base CX0 10 f fd ["pairs"] spTs := by
  refine F.ok scTs (fun vs H Q E h => ?_) (fun cdv A outer s H vs Q E hr h => ?_)
  · obtain ⟨v, ps, rfl, _⟩ := h
    rfl
  obtain ⟨v, ps, rfl, hv, h3, hP, k⟩ := h
  have hr2 : Room 2 _ := hr.mono (by decide)
  refine ⟨_, pss_cons (ps_set (i := 1) scTs.nd rfl (Or.inl rfl) (pe_lst pa_nil))
    (pss_cons (ps_for PassesOwn.never rfl (pi_tup (pv 0)) (pg_tup rfl (pgs_cons (pg_name (i := 2) scTs.nd rfl (Or.inl rfl)) (pgs_cons (pg_name (i := 3) scTs.nd rfl (Or.inl rfl)) pgs_nil)))
      (pss_cons (ps_expr (pe_bm PySem.F.plainAttrs_list PySem.F.slot_list_append PySem.F.type_list_append mt_append (pv 1) (pa_cons (pe_call gF hr2 rfl mF kF bF .nil pass0 (pa_cons (pv 3) pa_nil)) pa_nil)))
      (pss_one (ps_expr (pe_bm PySem.F.plainAttrs_list PySem.F.slot_list_append PySem.F.type_list_append mt_append (pv 1) (pa_cons (pe_call gT hr rfl mT kT bT .nil pass0 (pa_cons (pv 2) pa_nil)) pa_nil))))))
    (pss_one (ps_ret (pv 1)))), ?_⟩
  have hL : (20000 : Nat) ≤ sizeLine := by decide +kernel
  obtain ⟨q, ws, rfl, hq, hT⟩ := at_t hv
  have wl := hT.len
  rw [List.length_map] at wl
  refine ⟨by show 0 ≤ sizeLine; decide, fun L nL => ?_⟩
  have s1 := same_upd (o := .lst []) nL
  refine ⟨_, rfl, q, rfl, ⟨_, SqT.of (s1 _ _ hq)⟩, ?_⟩
  refine for_tup (xs := ws) (fun i σ H' => Same H H' ∧ ∃ (v2 v3 : Option V) (ys : List Str), σ = [some (.ref q), some (.ref L), v2, v3] ∧ H' L = some (.lst (ys.map V.str)) ∧ ys.map cl = (ps.take i).flatMap prC ∧ ys.length = 2 * i)
    ⟨s1, none, none, [], rfl, upd_same, rfl, rfl⟩ (fun i σ H' _ p => SqT.of (p.1 _ _ hq)) ?_ ?_
  · rintro i x σ H1 ex ⟨sH, v2, v3, ys, rfl, hL1, ey, yl⟩
    obtain ⟨u, eu, hu⟩ := (hT.mono (Kd.of_same sH)).get' ex
    rw [List.getElem?_map] at eu
    obtain ⟨⟨tm, fr⟩, ep, rfl⟩ := Option.map_eq_some_iff.mp eu
    have hb := hP _ (List.mem_of_getElem? ep)
    have ilt : i < ps.length := (List.getElem?_eq_some_iff.mp ep).1
    obtain ⟨r, xt, xf, rfl, hr', hxt, hxf⟩ := pair_at hu
    obtain ⟨rf, rfl, hrf⟩ := at_fr hxf
    dsimp only at hxt hrf
    have gf := hb.gf
    have tb := hb.tb
    dsimp only at gf tb
    refine ⟨r, _, rfl, SqT.of hr', rfl, _, _, rfl, _, _, rfl, rfl, ?_⟩
    refine ⟨_, rfl, .inl ⟨rfl, _, SqL.of hL1⟩, _, rfl, rf, _, _, rfl, SqT.of hrf, gf.pos, (Gfl gf).1, (Gfl gf).2, fun z H2 s2 ez => ?_⟩
    refine ⟨L, _, _, rfl, rfl, s2 _ _ hL1, by rw [List.length_map]; omega, ?_⟩
    have s2' : Same H (upd H2 L (.lst (ys.map V.str ++ [.str z]))) := same_wr nL (sH.trans s2)
    have kd2 : Kd H1 (upd H2 L (.lst (ys.map V.str ++ [.str z]))) := (Kd.of_same s2).trans (Kd.upd (s2 _ _ hL1))
    refine ⟨_, rfl, .inl ⟨rfl, _, SqL.of upd_same⟩, _, rfl, xt, tm, rfl, hxt.mono kd2, tb.ty, by have := tb.dep; omega, tb.len, fun z2 H3 s3 ez2 => ?_⟩
    refine ⟨L, _, _, rfl, rfl, s3 _ _ upd_same, by rw [List.length_append, List.length_map, List.length_singleton]; omega, ?_⟩
    refine ⟨same_wr nL (s2'.trans s3), _, _, ys ++ [z, z2], rfl, ?_, ?_, by simp [yl]; omega⟩
    · rw [upd_same]
      simp
    · rw [List.map_append, ey, List.take_add_one, ep, List.flatMap_append]
      show _ ++ [cl z, cl z2] = _ ++ prC (tm, fr)
      rw [ez, ez2]
      rfl
  · rintro σ H1 ⟨sH, v2, v3, ys, rfl, hL1, ey, yl⟩
    rw [wl, List.take_length] at ey
    exact ⟨_, rfl, k L ys H1 sH hL1 ey⟩
def spIn (n : Nat) : Sp := fun vs H Q _ => ∃ (v : V) (t : Tr) (kd : Str) (cs : List (List Nat)) (m : Nat), vs = [v] ∧ TrAt H v t ∧ Wi m kd t cs ∧ m < n ∧ n ≤ 4 ∧ ∀ (l : Addr) (ys : List Str) (H' : Hp), Same H H' → H' l = some (.lst (ys.map V.str)) → ys.map cl = cs → Q (.ref l) H'
def spSw (n : Nat) : Sp := fun vs H Q _ => ∃ (v : V) (t : Tr) (c : List Nat) (m : Nat), vs = [v] ∧ TrAt H v t ∧ Wx m t c ∧ m < n ∧ n ≤ 4 ∧ ∀ z H', Same H H' → cl z = c → Q (.str z) H'
theorem scIn : FnScope ["wish"] ["wish"] (defScope sIn) := ⟨rfl, rfl, rfl, by decide +kernel, rfl, by decide +kernel, by decide +kernel⟩
theorem scSw : FnScope ["wish"] ["wish"] (defScope sSw) := ⟨rfl, rfl, rfl, by decide +kernel, rfl, by decide +kernel, by decide +kernel⟩
theorem ok_in {f fW fT fF fS : Addr} {fd dW dT dF dS : FuncData} {n : Nat} (F : Fun K "inner_texts" "inner_texts" sIn f fd)
    (gW : FnOk P w K mg base CX0 (2 * n + 12) fW dW ["wish"] (spSw n)) (kW : PySem.W.keepIn K (.ref fW) = true) (bW : Binds K dW ["wish"] []) (mW : mg "shown_wish" = some (.ref fW))
    (gT : FnOk P w K mg base CX0 9 fT dT ["term"] (spSt 8)) (kT : PySem.W.keepIn K (.ref fT) = true) (bT : Binds K dT ["term"] []) (mT : mg "shown_term" = some (.ref fT))
    (gF : FnOk P w K mg base CX0 2 fF dF ["one"] (spFt K)) (kF : PySem.W.keepIn K (.ref fF) = true) (bF : Binds K dF ["one"] []) (mF : mg "fraction_text" = some (.ref fF))
    (gS : FnOk P w K mg base CX0 10 fS dS ["pairs"] spTs) (kS : PySem.W.keepIn K (.ref fS) = true) (bS : Binds K dS ["pairs"] []) (mS : mg "sum_texts" = some (.ref fS)) : FnOk P w K mg base CX0 (2 * n + 13) f fd ["wish"] (spIn (n + 1)) := by
  refine F.ok scIn (fun vs H Q E h => ?_) (fun cdv A outer s H vs Q E hr h => ?_)
  · obtain ⟨v, t, kd, cs, m, rfl, _⟩ := h
    rfl
  obtain ⟨v, t, kd, cs, m, rfl, hv, hw, hm, hn, k⟩ := h
  have hr2 : Room 2 _ := hr.mono (by omega)
  have hr9 : Room 9 _ := hr.mono (by omega)
  have hr10 : Room 10 _ := hr.mono (by omega)
  refine ⟨_, pss_cons (ps_if (pt_cmpR op_eq (pe_ix ix_tup (pv 0) pe_int fun _ _ => rfl) pe_str (nomark _)) (pss_one (ps_ret (pe_lst (pa_cons (pe_call gW hr rfl mW kW bW .nil pass0 (pa_cons (pe_ix ix_tup (pv 0) pe_int fun _ _ => rfl) pa_nil)) pa_nil)))) pss_nil)
    (pss_cons (ps_if (pt_cmpR op_eq (pe_ix ix_tup (pv 0) pe_int fun _ _ => rfl) pe_str (nomark _)) (pss_one (ps_ret (pe_lst (pa_cons (pe_call gT hr9 rfl mT kT bT .nil pass0 (pa_cons (pe_ix ix_tup (pv 0) pe_int fun _ _ => rfl) pa_nil)) (pa_cons (pe_call gT hr9 rfl mT kT bT .nil pass0 (pa_cons (pe_ix ix_tup (pv 0) pe_int fun _ _ => rfl) pa_nil)) pa_nil))))) pss_nil)
    (pss_cons (ps_if (pt_cmpR op_eq (pe_ix ix_tup (pv 0) pe_int fun _ _ => rfl) pe_str (nomark _)) (pss_one (ps_ret (pe_op op_cat (pe_call gS hr10 rfl mS kS bS .nil pass0 (pa_cons (pe_ix ix_tup (pv 0) pe_int fun _ _ => rfl) pa_nil)) (pe_lst (pa_cons (pe_call gF hr2 rfl mF kF bF .nil pass0 (pa_cons (pe_ix ix_tup (pv 0) pe_int fun _ _ => rfl) pa_nil)) pa_nil))))) pss_nil)
    (pss_one (ps_ret (pe_comp (NC := ["inner"]) (mp := [none]) rfl (pi_tup (pe_ix ix_tup (pv 0) pe_int fun _ _ => rfl)) (fun _ _ _ _ _ => pg_name (i := 0) (show (["inner"] : List Str).Nodup by decide +kernel) rfl (Or.inl rfl)) (fun _ _ _ _ _ => pts_nil) (fun _ _ _ _ _ => pe_call gW hr rfl mW kW bW .nil pass0 (pa_cons (pv 0) pa_nil))))))), ?_⟩
  have hL : (20000 : Nat) ≤ sizeLine := by decide +kernel
  have many : ∀ (r : Addr) (kk : Str) (y : V) (l : List (Tr × List Nat)) (m : Nat), v = .ref r → H r = some (.tup [.str kk, y]) → TrAt H y (.tup (l.map (·.1))) → (∀ p ∈ l, Wx m p.1 p.2) → l.length ≤ 3 → m < n → cs = l.map (·.2) →
      (tRet (tComp [none] (iTup K (tOp (rIxT K) (tVar 0) (tC (.int 1)))) (gName 0) tNoTest (tCall (spSw n) [] E0 (tCons (tVar 0) tNil)))) { nx := fun _ H' => Q .non H', rt := Q } [some v] H := by
    rintro r kk y l m rfl h1 hy hw' l3 hm' rfl
    obtain ⟨q, ws, rfl, h4, h5⟩ := at_t hy
    have wl := h5.len
    rw [List.length_map] at wl
    refine tret_of ?_
    refine tcomp_of rfl ?_
    refine ⟨_, rfl, r, _, 1, .ref q, rfl, rfl, SqT.of h1, rfl, q, rfl, ⟨ws, SqT.of h4⟩, fun D nD => ?_⟩
    refine comp_tup (xs := ws) (fun i acc H' => Same H H' ∧ H' D = some (.lst acc) ∧ ∃ ys : List Str, acc = ys.map V.str ∧ ys.map cl = (l.take i).map (·.2)) ⟨same_upd nD, upd_same, [], rfl, rfl⟩ (fun i acc H' p => SqT.of (p.1 _ _ h4)) ?_ ?_
    · rintro i x acc H' hi ex ⟨sH, hD, ys, rfl, ey⟩
      obtain ⟨t', et, htt⟩ := h5.get' ex
      rw [List.getElem?_map] at et
      obtain ⟨p, ep, rfl⟩ := Option.map_eq_some_iff.mp et
      have mp := List.mem_of_getElem? ep
      have yl := congrArg List.length ey
      rw [List.length_map, List.length_map, List.length_take] at yl
      refine ⟨_, rfl, x, p.1, p.2, m, rfl, htt.mono (Kd.of_same sH), hw' p mp, hm', by omega, fun z H6 s6 ez => CompN.mk hi ?_ (s6 _ _ hD) ⟨same_wr nD (sH.trans s6), upd_same, ys ++ [z], by rw [List.map_append]; rfl, ?_⟩⟩
      · rw [List.length_map]
        omega
      · rw [List.map_append, ey, List.take_add_one, ep]
        simp [ez]
    · rintro acc H' ⟨sH, hD, ys, rfl, ey⟩
      rw [wl, List.take_length] at ey
      exact k D ys H' sH hD ey
  cases hw with
  | no m t c hx =>
    obtain ⟨r, y, rfl, h1, h2⟩ := at2 hv
    refine ⟨_, rfl, r, _, 0, .str "not", rfl, rfl, SqT.of h1, rfl, rfl, _, rfl, ?_⟩
    rw [decide_eq_true rfl]
    refine iteT ⟨_, rfl, r, _, 1, y, rfl, rfl, SqT.of h1, rfl, y, t, c, m, rfl, h2, hx, by omega, by omega, fun z H1 s1 ez => ?_⟩
    refine ⟨by show 1 ≤ sizeLine; decide, fun l nl => k l [z] _ (s1.trans (same_upd nl)) upd_same ?_⟩
    rw [← ez]
    rfl
  | li _ t u ht hu =>
    obtain ⟨r, y, y2, rfl, h1, h2, h3⟩ := at3 hv
    refine ⟨_, rfl, r, _, 0, .str "like", rfl, rfl, SqT.of h1, rfl, rfl, _, rfl, ?_⟩
    rw [decide_eq_false (show ¬ V.str "like" = V.str "not" by decide +kernel)]
    refine iteF ?_
    refine ⟨_, rfl, r, _, 0, .str "like", rfl, rfl, SqT.of h1, rfl, rfl, _, rfl, ?_⟩
    rw [decide_eq_true rfl]
    refine iteT ⟨_, rfl, r, _, 1, y, rfl, rfl, SqT.of h1, rfl, y, t, rfl, h2, ht.ty, by have := ht.dep; omega, ht.len, fun z H1 s1 ez => ?_⟩
    refine ⟨_, rfl, r, _, 2, y2, rfl, rfl, SqT.of (s1 _ _ h1), rfl, y2, u, rfl, h3.mono (Kd.of_same s1), hu.ty, by have := hu.dep; omega, hu.len, fun z2 H2 s2 ez2 => ?_⟩
    refine ⟨by show 2 ≤ sizeLine; decide, fun l nl => k l [z, z2] _ (s1.trans (s2.trans (same_upd nl))) upd_same ?_⟩
    rw [← ez, ← ez2]
    rfl
  | mo _ ps fr hp3 hP hf =>
    obtain ⟨r, y, y2, rfl, h1, h2, h3⟩ := at3 hv
    obtain ⟨rf, rfl, hrf⟩ := at_fr h3
    refine ⟨_, rfl, r, _, 0, .str "most", rfl, rfl, SqT.of h1, rfl, rfl, _, rfl, ?_⟩
    rw [decide_eq_false (show ¬ V.str "most" = V.str "not" by decide +kernel)]
    refine iteF ?_
    refine ⟨_, rfl, r, _, 0, .str "most", rfl, rfl, SqT.of h1, rfl, rfl, _, rfl, ?_⟩
    rw [decide_eq_false (show ¬ V.str "most" = V.str "like" by decide +kernel)]
    refine iteF ?_
    refine ⟨_, rfl, r, _, 0, .str "most", rfl, rfl, SqT.of h1, rfl, rfl, _, rfl, ?_⟩
    rw [decide_eq_true rfl]
    refine iteT ⟨_, rfl, r, _, 1, y, rfl, rfl, SqT.of h1, rfl, y, ps, rfl, h2, hp3, hP, fun l ys H1 s1 hl1 ey => ?_⟩
    refine ⟨_, rfl, r, _, 2, .ref rf, rfl, rfl, SqT.of (s1 _ _ h1), rfl, rf, _, _, rfl, SqT.of (s1 _ _ hrf), hf.pos, (Gfl hf).1, (Gfl hf).2, fun z H2 s2 ez => ?_⟩
    refine ⟨by show 1 ≤ sizeLine; decide, fun l2 nl2 => ?_⟩
    have s3 := same_upd (o := .lst [.str z]) nl2
    have yl := congrArg List.length ey
    rw [List.length_map, prs_many] at yl
    refine ⟨l, l2, _, _, rfl, rfl, s3 _ _ (s2 _ _ hl1), upd_same, by rw [List.length_map, List.length_singleton]; omega, fun p np => ?_⟩
    refine k p (ys ++ [z]) _ (s1.trans (s2.trans (s3.trans (same_upd np)))) (by rw [upd_same, List.map_append]; rfl) ?_
    rw [List.map_append, ey]
    show _ ++ [cl z] = _
    rw [ez]
    rfl
  | bo m l l3 hl =>
    obtain ⟨r, y, e, h1, h2⟩ := at2 hv
    subst e
    refine ⟨_, rfl, r, _, 0, .str "both", rfl, rfl, SqT.of h1, rfl, rfl, _, rfl, ?_⟩
    rw [decide_eq_false (show ¬ V.str "both" = V.str "not" by decide +kernel)]
    refine iteF ?_
    refine ⟨_, rfl, r, _, 0, .str "both", rfl, rfl, SqT.of h1, rfl, rfl, _, rfl, ?_⟩
    rw [decide_eq_false (show ¬ V.str "both" = V.str "like" by decide +kernel)]
    refine iteF ?_
    refine ⟨_, rfl, r, _, 0, .str "both", rfl, rfl, SqT.of h1, rfl, rfl, _, rfl, ?_⟩
    rw [decide_eq_false (show ¬ V.str "both" = V.str "most" by decide +kernel)]
    refine iteF ?_
    exact many r _ y l m rfl h1 h2 hl l3 (by omega) rfl
  | ei m l l3 hl =>
    obtain ⟨r, y, e, h1, h2⟩ := at2 hv
    subst e
    refine ⟨_, rfl, r, _, 0, .str "either", rfl, rfl, SqT.of h1, rfl, rfl, _, rfl, ?_⟩
    rw [decide_eq_false (show ¬ V.str "either" = V.str "not" by decide +kernel)]
    refine iteF ?_
    refine ⟨_, rfl, r, _, 0, .str "either", rfl, rfl, SqT.of h1, rfl, rfl, _, rfl, ?_⟩
    rw [decide_eq_false (show ¬ V.str "either" = V.str "like" by decide +kernel)]
    refine iteF ?_
    refine ⟨_, rfl, r, _, 0, .str "either", rfl, rfl, SqT.of h1, rfl, rfl, _, rfl, ?_⟩
    rw [decide_eq_false (show ¬ V.str "either" = V.str "most" by decide +kernel)]
    refine iteF ?_
    exact many r _ y l m rfl h1 h2 hl l3 (by omega) rfl
theorem ok_sw1 {f fI fB D : Addr} {fd dI dB : FuncData} {n : Nat} (F : Fun K "shown_wish" "shown_wish" sSw f fd)
    (gI : FnOk P w K mg base CX0 (2 * n + 13) fI dI ["wish"] (spIn (n + 1))) (kI : PySem.W.keepIn K (.ref fI) = true) (bI : Binds K dI ["wish"] []) (mI : mg "inner_texts" = some (.ref fI))
    (gB : FnOk P w K mg base CX0 1 fB dB ["words"] (spBr K)) (kB : PySem.W.keepIn K (.ref fB) = true) (bB : Binds K dB ["words"] []) (mB : mg "bracketed" = some (.ref fB))
    (mD : mg "FIRST_WORDS" = some (.ref D)) (hD : FwK w K D) : FnOk P w K mg base CX0 (2 * n + 14) f fd ["wish"] (spSw (n + 1)) := by
  refine F.ok scSw (fun vs H Q E h => ?_) (fun cdv A outer s H vs Q E hr h => ?_)
  · obtain ⟨v, t, c, m, rfl, _⟩ := h
    rfl
  obtain ⟨v, t, c, m, rfl, hv, hw, hm, hn, k⟩ := h
  have hr1 : Room 1 _ := hr.mono (by omega)
  refine ⟨_, pss_cons (ps_if (pt_cmpR op_eq (pe_ix ix_tup (pv 0) pe_int fun _ _ => rfl) pe_str (nomark _)) (pss_one (ps_ret (pe_ix ix_tup (pv 0) pe_int fun _ _ => rfl))) pss_nil)
    (pss_one (ps_ret (pe_call gB hr1 rfl mB kB bB .nil pass0 (pa_cons (pe_op op_cat (pe_lst (pa_cons (pe_ix (ix_dictF hD) (pe_glob (v := .ref D) rfl mD rfl) (pe_ix ix_tup (pv 0) pe_int fun _ _ => rfl) fun _ _ => rfl) pa_nil))
      (pe_call gI hr rfl mI kI bI .nil pass0 (pa_cons (pv 0) pa_nil))) pa_nil)))), ?_⟩
  have hL : (20000 : Nat) ≤ sizeLine := by decide +kernel
  rcases hw.inner with ⟨x, rfl, rfl, hx⟩ | ⟨kk, kk', cs, hi, hf, rfl⟩
  · obtain ⟨r, y, rfl, h1, h2⟩ := at2 hv
    have h3 := at_s h2
    subst h3
    refine ⟨_, rfl, r, _, 0, .str "flag", rfl, rfl, SqT.of h1, rfl, rfl, _, rfl, ?_⟩
    rw [decide_eq_true rfl]
    refine iteT ⟨_, rfl, r, _, 1, .str x, rfl, rfl, SqT.of h1, rfl, ?_⟩
    exact k _ H (Same.refl H) rfl
  · obtain ⟨⟨rr, rfl⟩, hk⟩ := hi.head
    obtain ⟨r, vs, rfl, h1, h2⟩ := first_at hv
    refine ⟨_, rfl, r, _, 0, .str kk, rfl, rfl, SqT.of h1, atI_nat (j := 0) rfl, rfl, _, rfl, ?_⟩
    rw [decide_eq_false (show ¬ V.str kk = V.str "flag" from fun e => hk (V.str.inj e))]
    refine iteF ?_
    refine ⟨_, rfl, r, _, 0, .str kk, rfl, rfl, SqT.of h1, atI_nat (j := 0) rfl, kk, kk', rfl, rfl, hf, by show 1 ≤ sizeLine; decide, fun l nl => ?_⟩
    have s1 := same_upd (o := .lst [.str kk']) nl
    refine ⟨_, rfl, .ref r, _, kk, cs, m, rfl, hv.mono (Kd.of_same s1), hi, hm, hn, fun l2 ys H2 s2 hl2 ey => ?_⟩
    have hsm := hi.small (by omega)
    have yl := congrArg List.length ey
    rw [List.length_map] at yl
    refine ⟨l, l2, [.str kk'], _, rfl, rfl, s2 _ _ upd_same, hl2, by rw [List.length_map, List.length_singleton]; omega, fun p np => ?_⟩
    refine ⟨p, kk', ys, rfl, SqL.of (by rw [upd_same]; rfl), by have := hf.len; omega, by omega, fun y my => ?_, fun z ez => ?_⟩
    · rw [← cl_len]
      exact hsm.2 _ (by rw [← ey]; exact List.mem_map_of_mem my)
    · exact k z _ (s1.trans (s2.trans (same_upd np))) (by rw [ez, ey]; rfl)
theorem ok_sw {f fI fB fT fF fS D : Addr} {fd dI dB dT dF dS : FuncData} (F : Fun K "shown_wish" "shown_wish" sSw f fd) (kF' : PySem.W.keepIn K (.ref f) = true) (bF' : Binds K fd ["wish"] []) (mF' : mg "shown_wish" = some (.ref f))
    (FI : Fun K "inner_texts" "inner_texts" sIn fI dI) (kI : PySem.W.keepIn K (.ref fI) = true) (bI : Binds K dI ["wish"] []) (mI : mg "inner_texts" = some (.ref fI))
    (gB : FnOk P w K mg base CX0 1 fB dB ["words"] (spBr K)) (kB : PySem.W.keepIn K (.ref fB) = true) (bB : Binds K dB ["words"] []) (mB : mg "bracketed" = some (.ref fB))
    (gT : FnOk P w K mg base CX0 9 fT dT ["term"] (spSt 8)) (kT : PySem.W.keepIn K (.ref fT) = true) (bT : Binds K dT ["term"] []) (mT : mg "shown_term" = some (.ref fT))
    (gF : FnOk P w K mg base CX0 2 fF dF ["one"] (spFt K)) (kF : PySem.W.keepIn K (.ref fF) = true) (bF : Binds K dF ["one"] []) (mF : mg "fraction_text" = some (.ref fF))
    (gS : FnOk P w K mg base CX0 10 fS dS ["pairs"] spTs) (kS : PySem.W.keepIn K (.ref fS) = true) (bS : Binds K dS ["pairs"] []) (mS : mg "sum_texts" = some (.ref fS))
    (mD : mg "FIRST_WORDS" = some (.ref D)) (hD : FwK w K D) : ∀ n, FnOk P w K mg base CX0 (2 * n + 12) f fd ["wish"] (spSw n)
  | 0 => ⟨fun vs H Q E ⟨_, _, _, _, _, _, _, h, _⟩ => absurd h (by omega), fun A outer s H args us vs Q E _ _ _ _ ⟨_, _, _, _, _, _, _, h, _⟩ => absurd h (by omega)⟩
  | n + 1 => ok_sw1 F (ok_in FI (ok_sw F kF' bF' mF' FI kI bI mI gB kB bB mB gT kT bT mT gF kF bF mF gS kS bS mS mD hD n) kF' bF' mF' gT kT bT mT gF kF bF mF gS kS bS mS) kI bI mI gB kB bB mB mD hD
end
end K77
set_option Elab.async false
set_option linter.all false
set_option maxRecDepth 100000
set_option maxHeartbeats 1000000
namespace K77
open PySem L2 Mth Tre
theorem SqL.same {K : PySem.W.Frag} {H H' : Hp} {a : Addr} {xs : List V} (s : Same H H') (h : SqL K H a xs) : SqL K H' a xs := h.imp (fun x => x.imp (fun e => s _ _ e) fun ⟨o, e⟩ => ⟨o, s _ _ e⟩) id
theorem at_ixs {ns : List Int} {i : Int} (h0 : 0 ≤ i) (h1 : i < ns.length) : ∃ (z : Int), atI (ns.map V.int) i = some (.int z) := by
  obtain ⟨j, rfl⟩ : ∃ j : Nat, i = (j : Int) := ⟨i.toNat, by omega⟩
  have hj : j < ns.length := by omega
  exact ⟨ns[j], atI_nat (by rw [List.getElem?_map, List.getElem?_eq_getElem hj]; rfl)⟩
theorem big_of {m : Int} (h0 : 0 ≤ m) (h : m ≤ 1000000000000) : Big m := by
  unfold Big
  have : (1000000000000 : Nat) < 2 ^ 8000 := by decide +kernel
  exact Nat.lt_of_le_of_lt (by omega) this
section
variable {P : Program} {w : World} {K : PySem.W.Frag} {mg : Str → Option Value} {base : Heap}
def spDraw (K : PySem.W.Frag) : Sp := fun vs H Q _ => ∃ (a : Addr) (ns : List Int) (kk m : Int), vs = [.ref a, .int kk, .int m] ∧ SqL K H a (ns.map V.int) ∧ ns.length ≤ 63 ∧ 0 ≤ kk ∧ kk ≤ 100000 ∧ 0 < m ∧ ∀ r : Int, 0 ≤ r → r < m → Q (.int r) H
theorem scD : FnScope ["_law_script", "_law_k", "_law_many", "_law_cell", "_law_seed"] ["_law_script", "_law_k", "_law_many"] (defScope sDraw) := ⟨rfl, rfl, rfl, by decide +kernel, rfl, by decide +kernel, by decide +kernel⟩
theorem ok_draw {f : Addr} {fd : FuncData} (F : Fun K "_law_draw" "_law_draw" sDraw f fd) (B : Blt mg) : FnOk P w K mg base CX0 1 f fd ["_law_script", "_law_k", "_law_many"] (spDraw K) := by
  refine F.ok scD (fun vs H Q E h => ?_) (fun cdv A outer s H vs Q E hr h => ?_)
  · obtain ⟨a, ns, kk, m, rfl, _⟩ := h
    rfl
  obtain ⟨a, ns, kk, m, rfl, hS, h63, k0, k5, m0, k⟩ := h
  refine ⟨_, pss_cons (ps_set (i := 3) scD.nd rfl (Or.inl rfl) (pe_ifExp (pt_cmpR op_gt (pe_callB call_len_seq rfl B.le PySem.boot_len (pa_cons (pv 0) pa_nil)) pe_int (nomark _))
      (pe_ix ix_list (pv 0) (pe_op op_mod (pv 1) (pe_callB call_len_seq rfl B.le PySem.boot_len (pa_cons (pv 0) pa_nil))) fun _ _ => rfl) pe_int))
    (pss_cons (ps_if (PW.pt (pw_and (pt_cmpR op_gt (pe_callB call_len_seq rfl B.le PySem.boot_len (pa_cons (pv 0) pa_nil)) pe_int (nomark _)) (pw_and1 (pt_cmpR op_eq (pe_op op_mod (pe_ix ix_list (pv 0) pe_int fun _ _ => rfl) pe_int) pe_int (nomark _)))))
      (pss_one (ps_ret (pe_op op_mod (pe_op op_mod (pe_op op_shr (pv 3) (pe_op op_add (pe_op op_mul pe_int (pe_op op_fdiv (pv 1) (pe_callB call_len_seq rfl B.le PySem.boot_len (pa_cons (pv 0) pa_nil)))) pe_int)) pe_int) (pv 2)))) pss_nil)
    (pss_cons (ps_set (i := 4) scD.nd rfl (Or.inl rfl) (pe_op op_add (pe_op op_add (pe_op op_mod (pv 3) pe_int) (pe_op op_mulB (pe_op op_mul pe_int (pv 1)) (pv 1))) pe_int))
    (pss_one (ps_ret (pe_op op_mod (pe_op op_mod (pe_op op_mul (pe_op op_mod (pe_op op_mul (pv 4) pe_int) pe_int) pe_int) pe_int) (pv 2)))))), ?_⟩
  by_cases z0 : ns.length = 0
  · have e0 : ns = [] := List.length_eq_zero_iff.mp z0
    subst e0
    refine ⟨_, rfl, a, _, rfl, .inl hS, _, 0, rfl, rfl, _, rfl, ?_⟩
    refine iteF ?_
    refine ⟨_, rfl, a, _, rfl, .inl hS, _, 0, rfl, rfl, _, rfl, ?_⟩
    refine iteF ?_
    refine iteF ?_
    refine ⟨_, rfl, 0, 1000003, rfl, rfl, (by show (0 : Int) < 1000003; decide), _, rfl, 31, kk, rfl, rfl, .inl ⟨by decide, by decide⟩, _, rfl, _, kk, rfl, rfl, ⟨big_of (by omega) (by omega), big_of k0 (by omega)⟩, _, _, rfl, rfl, _, _, rfl, rfl, ?_⟩
    refine ⟨_, rfl, _, 48271, rfl, rfl, .inr ⟨by decide, by decide⟩, _, 999983, rfl, rfl, (by show (0 : Int) < 999983; decide), _, 7919, rfl, rfl, .inr ⟨by decide, by decide⟩, _, 524287, rfl, rfl, (by show (0 : Int) < 524287; decide), _, rfl, _, m, rfl, rfl, m0, ?_⟩
    exact k _ (Int.emod_nonneg _ (by omega)) (Int.emod_lt_of_pos _ m0)
  · have lp : (0 : Int) < (ns.length : Int) := by omega
    obtain ⟨z, hz⟩ := at_ixs (ns := ns) (i := kk % (ns.length : Int)) (Int.emod_nonneg _ (by omega)) (Int.emod_lt_of_pos _ lp)
    obtain ⟨y, hy⟩ := at_ixs (ns := ns) (i := 0) (by omega) lp
    have g0 : decide ((0 : Int) < (ns.length : Int)) = true := decide_eq_true lp
    refine ⟨_, rfl, a, _, rfl, .inl hS, _, 0, rfl, rfl, _, rfl, ?_⟩
    rw [List.length_map, g0]
    refine iteT ?_
    refine ⟨_, rfl, _, rfl, _, rfl, a, _, rfl, .inl hS, kk, _, rfl, rfl, (by rw [List.length_map]; omega), a, _, kk % (ns.length : Int), .int z, rfl, (by rw [List.length_map]), hS, hz, ?_⟩
    refine ⟨_, rfl, a, _, rfl, .inl hS, _, 0, rfl, rfl, _, rfl, ?_⟩
    rw [List.length_map, g0]
    refine iteT ?_
    refine ⟨_, rfl, a, _, 0, .int y, rfl, rfl, hS, hy, _, 2, rfl, rfl, (by show (0 : Int) < 2; decide), rfl, _, rfl, ?_⟩
    refine ite2 (fun _ => ?_) (fun _ => ?_)
    · refine ⟨_, rfl, _, rfl, _, rfl, a, _, rfl, .inl hS, kk, _, rfl, rfl, ⟨by rw [List.length_map]; omega, by rw [List.length_map]; omega⟩, 20, _, rfl, rfl, .inl ⟨by decide, by decide⟩, _, 1, rfl, rfl, z, _, rfl, rfl, ?_, _, 1048576, rfl, rfl, (by show (0 : Int) < 1048576; decide), _, rfl, _, m, rfl, rfl, m0, ?_⟩
      · have := Int.ediv_nonneg k0 (b := ((ns.map V.int).length : Int)) (by omega)
        omega
      · exact k _ (Int.emod_nonneg _ (by omega)) (Int.emod_lt_of_pos _ m0)
    · refine ⟨_, rfl, z, 1000003, rfl, rfl, (by show (0 : Int) < 1000003; decide), _, rfl, 31, kk, rfl, rfl, .inl ⟨by decide, by decide⟩, _, rfl, _, kk, rfl, rfl, ⟨big_of (by omega) (by omega), big_of k0 (by omega)⟩, _, _, rfl, rfl, _, _, rfl, rfl, ?_⟩
      refine ⟨_, rfl, _, 48271, rfl, rfl, .inr ⟨by decide, by decide⟩, _, 999983, rfl, rfl, (by show (0 : Int) < 999983; decide), _, 7919, rfl, rfl, .inr ⟨by decide, by decide⟩, _, 524287, rfl, rfl, (by show (0 : Int) < 524287; decide), _, rfl, _, m, rfl, rfl, m0, ?_⟩
      exact k _ (Int.emod_nonneg _ (by omega)) (Int.emod_lt_of_pos _ m0)
end
end K77
set_option Elab.async false
set_option linter.all false
set_option maxRecDepth 100000
set_option maxHeartbeats 1000000
namespace Trm
open PySem
inductive Tm where
  | nm (x : Str)
  | ap (f : Str) (ts : List Tm)
def Ltr (c : Nat) : Prop := 97 ≤ c ∧ c ≤ 122
structure Nm (x : Str) : Prop where
  pos : 0 < x.length
  le : x.length ≤ 8
  ltr : ∀ c ∈ x.cps.toList, Ltr c
mutual
def Tm.depth : Tm → Nat
  | .nm _ => 0
  | .ap _ ts => Tms.depth ts + 1
def Tms.depth : List Tm → Nat
  | [] => 0
  | t :: ts => max (Tm.depth t) (Tms.depth ts)
end
mutual
def Tm.all : Tm → List Tm
  | .nm x => [.nm x]
  | .ap f ts => Tms.all ts ++ [.ap f ts]
def Tms.all : List Tm → List Tm
  | [] => []
  | t :: ts => Tm.all t ++ Tms.all ts
end
def Tm.kids : Tm → List Tm
  | .nm _ => []
  | .ap _ ts => ts
mutual
def Tm.shown : Tm → Str
  | .nm x => x
  | .ap f ts => Str.ofString "(" ++ Txt.join (Str.ofString " ") (f :: Tms.shown ts) ++ Str.ofString ")"
def Tms.shown : List Tm → List Str
  | [] => []
  | t :: ts => Tm.shown t :: Tms.shown ts
end
end Trm
set_option Elab.async false
set_option linter.all false
set_option maxRecDepth 100000
set_option maxHeartbeats 1000000
namespace Trm
open PySem
def cl (x : Str) : List Nat := x.cps.toList
theorem cl_app (x y : Str) : cl (x ++ y) = cl x ++ cl y := by
  show (x.cps ++ y.cps).toList = _
  simp [cl]
theorem cl_inj {x y : Str} (h : cl x = cl y) : x = y := by
  cases x
  cases y
  simp only [Str.mk.injEq]
  exact Array.toList_inj.mp h
theorem cl_len (x : Str) : (cl x).length = x.length := by simp [cl, Str.length]
mutual
def Tm.code : Tm → List Nat
  | .nm x => cl x
  | .ap f ts => 40 :: (cl f ++ (Tms.code ts ++ [41]))
def Tms.code : List Tm → List Nat
  | [] => []
  | t :: ts => 32 :: (Tm.code t ++ Tms.code ts)
end
theorem cl_join (f : Str) : ∀ ys : List Str, cl (Str.join (Str.ofString " ") (f :: ys)) = cl f ++ ys.flatMap fun y => 32 :: cl y
  | [] => by
    show cl f = _
    simp
  | y :: ys => by
    show cl (f ++ Str.ofString " " ++ Str.join (Str.ofString " ") (y :: ys)) = _
    rw [cl_app, cl_app, cl_join y ys]
    have e : cl (Str.ofString " ") = [32] := by decide +kernel
    rw [e]
    simp
theorem nm_cl {x : Str} (h : Nm x) : ∃ c l, cl x = c :: l ∧ Ltr c := by
  cases e : cl x with
  | nil =>
    have := cl_len x
    rw [e] at this
    have := h.pos
    simp at *
    omega
  | cons c l => exact ⟨c, l, rfl, h.ltr c (by show c ∈ cl x; rw [e]; exact List.mem_cons_self)⟩
open Classical in
noncomputable def add (acc : List Tm) (t : Tm) : List Tm := if t ∈ acc then acc else acc ++ [t]
noncomputable def firsts (acc ts : List Tm) : List Tm := ts.foldl add acc
theorem add_in {acc : List Tm} {t : Tm} (h : t ∈ acc) : add acc t = acc := by unfold add; rw [if_pos h]
theorem add_out {acc : List Tm} {t : Tm} (h : ¬ t ∈ acc) : add acc t = acc ++ [t] := by unfold add; rw [if_neg h]
theorem firsts_app (acc a b : List Tm) : firsts acc (a ++ b) = firsts (firsts acc a) b := by
  unfold firsts
  rw [List.foldl_append]
theorem firsts_nil (acc : List Tm) : firsts acc [] = acc := rfl
theorem firsts_cons (acc : List Tm) (t : Tm) (ts : List Tm) : firsts acc (t :: ts) = firsts (add acc t) ts := rfl
theorem firsts_one (acc : List Tm) (t : Tm) : firsts acc [t] = add acc t := rfl
theorem add_len (acc : List Tm) (t : Tm) : (add acc t).length ≤ acc.length + 1 := by
  unfold add
  split <;> simp
theorem firsts_len : ∀ (ts acc : List Tm), (firsts acc ts).length ≤ acc.length + ts.length
  | [], acc => by simp [firsts_nil]
  | t :: ts, acc => by
    rw [firsts_cons, List.length_cons]
    have := firsts_len ts (add acc t)
    have := add_len acc t
    omega
end Trm
set_option Elab.async false
set_option linter.all false
set_option maxRecDepth 100000
set_option maxHeartbeats 1000000
namespace Tw
open PySem L2 Tre Wd Mth Dec Su
abbrev Nm := Trm.Nm
abbrev Ltr := Trm.Ltr
inductive Lt : Tr → Prop
  | nm (x : Str) : Nm x → Lt (.tup [s_ "name", .str x])
  | ap (f : Str) (ts : List Tr) : Nm f → 0 < ts.length → (∀ t ∈ ts, Lt t) → Lt (.tup [s_ "call", .str f, .tup ts])
inductive Lw : Tr → Prop
  | fl (x : Str) : Nm x → Lw (.tup [s_ "flag", .str x])
  | mo (ps : List Pq) (f : Fr) : (∀ p ∈ ps, Lt p.1) → Lw (.tup [s_ "most", .tup (ps.map prT), frT f])
  | li (t u : Tr) : Lt t → Lt u → Lw (.tup [s_ "like", t, u])
  | no (t : Tr) : Lw t → Lw (.tup [s_ "not", t])
  | bo (l : List Tr) : (∀ t ∈ l, Lw t) → Lw (.tup [s_ "both", .tup l])
  | ei (l : List Tr) : (∀ t ∈ l, Lw t) → Lw (.tup [s_ "either", .tup l])
def St (Q : Nat → Prop) (r : List Nat) : Prop := ∀ c l, r = c :: l → ¬ Q c
theorem run_eq {Q : Nat → Prop} : ∀ {x y r s : List Nat}, (∀ c ∈ x, Q c) → (∀ c ∈ y, Q c) → St Q r → St Q s → x ++ r = y ++ s → x = y ∧ r = s
  | [], [], _, _, _, _, _, _, e => ⟨rfl, e⟩
  | [], b :: y, r, s, _, hy, hr, _, e => absurd (hy b List.mem_cons_self) (hr b _ e)
  | a :: x, [], r, s, hx, _, _, hs, e => absurd (hx a List.mem_cons_self) (hs a _ e.symm)
  | a :: x, b :: y, r, s, hx, hy, hr, hs, e => by
    rw [List.cons_append, List.cons_append] at e
    obtain ⟨e1, e2⟩ := List.cons.inj e
    obtain ⟨q1, q2⟩ := run_eq (fun c m => hx c (List.mem_cons_of_mem _ m)) (fun c m => hy c (List.mem_cons_of_mem _ m)) hr hs e2
    exact ⟨by rw [e1, q1], q2⟩
theorem st_cons {Q : Nat → Prop} {c : Nat} {l : List Nat} (h : ¬ Q c) : St Q (c :: l) := fun d m e => by
  cases e
  exact h
def En (r : List Nat) : Prop := ∀ c l, r = c :: l → c = 32 ∨ c = 41
theorem En.st {Q : Nat → Prop} {r : List Nat} (h : En r) (h1 : ¬ Q 32) (h2 : ¬ Q 41) : St Q r := fun c l e => by
  rcases h c l e with rfl | rfl
  · exact h1
  · exact h2
theorem En.nil : En [] := fun c l e => by cases e
theorem En.b (l : List Nat) : En (32 :: l) := fun c m e => by cases e; exact .inl rfl
theorem En.k (l : List Nat) : En (41 :: l) := fun c m e => by cases e; exact .inr rfl
theorem sp_end (cs : List (List Nat)) (r : List Nat) : En (spC cs ++ 41 :: r) := by
  cases cs with
  | nil => exact En.k r
  | cons c cs => exact En.b _
theorem nl32 : ¬ Ltr 32 := by unfold Ltr Trm.Ltr; omega
theorem nl41 : ¬ Ltr 41 := by unfold Ltr Trm.Ltr; omega
theorem sp_inj {α : Type} (c : α → List Nat) {Q : α → Prop} : ∀ {ts us : List α} {r s : List Nat}, (∀ t ∈ ts, ∀ u, Q u → ∀ r s, En r → En s → c t ++ r = c u ++ s → t = u ∧ r = s) → (∀ u ∈ us, Q u) →
    spC (ts.map c) ++ 41 :: r = spC (us.map c) ++ 41 :: s → ts = us ∧ r = s
  | [], [], r, s, _, _, e => by
    simp only [spC, List.map_nil, List.flatten_nil, List.nil_append] at e
    exact ⟨rfl, (List.cons.inj e).2⟩
  | [], u :: us, r, s, _, _, e => by
    have e' : 41 :: r = 32 :: (c u ++ spC (us.map c) ++ 41 :: s) := by simpa [spC] using e
    cases e'
  | t :: ts, [], r, s, _, _, e => by
    have e' : 32 :: (c t ++ spC (ts.map c) ++ 41 :: r) = 41 :: s := by simpa [spC] using e
    cases e'
  | t :: ts, u :: us, r, s, ht, hu, e => by
    have e' : 32 :: (c t ++ (spC (ts.map c) ++ 41 :: r)) = 32 :: (c u ++ (spC (us.map c) ++ 41 :: s)) := by simpa [spC] using e
    obtain ⟨e1, e2⟩ := ht t List.mem_cons_self u (hu u List.mem_cons_self) _ _ (sp_end _ _) (sp_end _ _) (List.cons.inj e').2
    obtain ⟨e3, e4⟩ := sp_inj c (fun t m => ht t (List.mem_cons_of_mem _ m)) (fun u m => hu u (List.mem_cons_of_mem _ m)) e2
    exact ⟨by rw [e1, e3], e4⟩
theorem nm_cl {x : Str} (h : Nm x) : ∃ c l, cl x = c :: l ∧ Ltr c := Trm.nm_cl h
theorem nm_ltr {x : Str} (h : Nm x) : ∀ c ∈ cl x, Ltr c := h.ltr
theorem tm_inj {t : Tr} (h : Lt t) : ∀ (u : Tr), Lt u → ∀ (r s : List Nat), En r → En s → tmC t ++ r = tmC u ++ s → t = u ∧ r = s := by
  induction h with
  | nm x hx =>
    intro u hu r s hr hs e
    cases hu with
    | nm y hy =>
      unfold s_ at e ⊢
      rw [tm_name, tm_name] at e
      obtain ⟨e1, e2⟩ := run_eq (nm_ltr hx) (nm_ltr hy) (hr.st nl32 nl41) (hs.st nl32 nl41) e
      exact ⟨by rw [cl_inj e1], e2⟩
    | ap g us hg h0 hu =>
      unfold s_ at e
      rw [tm_name, tm_call] at e
      obtain ⟨c, l, q, hc⟩ := nm_cl hx
      rw [q, List.cons_append] at e
      have : c = 40 := (List.cons.inj e).1
      subst this
      unfold Ltr Trm.Ltr at hc
      omega
  | ap f ts hf h0 ht ih =>
    intro u hu r s hr hs e
    cases hu with
    | nm y hy =>
      unfold s_ at e
      rw [tm_name, tm_call] at e
      obtain ⟨c, l, q, hc⟩ := nm_cl hy
      rw [q, List.cons_append] at e
      have : 40 = c := (List.cons.inj e).1
      subst this
      unfold Ltr Trm.Ltr at hc
      omega
    | ap g us hg h0' hu =>
      unfold s_ at e ⊢
      rw [tm_call, tm_call, tmsC_eq, tmsC_eq] at e
      have e' : cl f ++ (spC (ts.map tmC) ++ 41 :: r) = cl g ++ (spC (us.map tmC) ++ 41 :: s) := by simpa using e
      obtain ⟨e1, e2⟩ := run_eq (nm_ltr hf) (nm_ltr hg) ((sp_end _ _).st nl32 nl41) ((sp_end _ _).st nl32 nl41) e'
      obtain ⟨e3, e4⟩ := sp_inj tmC ih hu e2
      exact ⟨by rw [cl_inj e1, e3], e4⟩
def Dg (c : Nat) : Prop := 48 ≤ c ∧ c ≤ 57
theorem ds_dg (n : Nat) : ∀ c ∈ ds n, Dg c := fun c m => ds_dig n c m
theorem nd32 : ¬ Dg 32 := by unfold Dg; omega
theorem nd41 : ¬ Dg 41 := by unfold Dg; omega
theorem nd47 : ¬ Dg 47 := by unfold Dg; omega
theorem ds_ne (n : Nat) : ∃ c l, ds n = c :: l ∧ Dg c := by
  cases e : ds n with
  | nil =>
    have := ds_val n
    have h1 : ds n ≠ [] := by
      unfold ds
      intro z
      have : (Nat.toDigits 10 n) = [] := by simpa using z
      have := Nat.length_toDigits_pos (b := 10) (n := n)
      simp_all
    exact absurd e h1
  | cons c l => exact ⟨c, l, rfl, ds_dg n c (by rw [e]; exact List.mem_cons_self)⟩
theorem fr_inj {p q : Fr} {r s : List Nat} (hp : 0 < p.2) (hq : 0 < q.2) (hr : En r) (hs : En s) (e : frC p ++ r = frC q ++ s) : p = q ∧ r = s := by
  obtain ⟨x, y⟩ := p
  obtain ⟨x', y'⟩ := q
  dsimp only at hp hq
  unfold frC txt Dec.low at e
  dsimp only at e
  have low_inj : ∀ {r s : List Nat}, En r → En s → ds x.natAbs ++ ((if y = 1 then [] else 47 :: ds y.natAbs) ++ r) = ds x'.natAbs ++ ((if y' = 1 then [] else 47 :: ds y'.natAbs) ++ s) → x.natAbs = x'.natAbs ∧ y = y' ∧ r = s := by
    intro r s hr hs e
    have st : ∀ {y : Int} {r : List Nat}, En r → St Dg ((if y = 1 then [] else 47 :: ds y.natAbs) ++ r) := fun {y r} hr => by
      split
      · exact hr.st nd32 nd41
      · exact st_cons nd47
    obtain ⟨e1, e2⟩ := run_eq (ds_dg _) (ds_dg _) (st hr) (st hs) e
    refine ⟨ds_inj e1, ?_⟩
    by_cases z : y = 1
    · by_cases z' : y' = 1
      · rw [if_pos z, if_pos z'] at e2
        exact ⟨by omega, e2⟩
      · rw [if_pos z, if_neg z', List.nil_append, List.cons_append] at e2
        rcases hr _ _ e2 with h | h <;> omega
    · by_cases z' : y' = 1
      · rw [if_neg z, if_pos z', List.nil_append, List.cons_append] at e2
        rcases hs _ _ e2.symm with h | h <;> omega
      · rw [if_neg z, if_neg z', List.cons_append, List.cons_append] at e2
        obtain ⟨e3, e4⟩ := run_eq (ds_dg _) (ds_dg _) (hr.st nd32 nd41) (hs.st nd32 nd41) (List.cons.inj e2).2
        have := ds_inj e3
        exact ⟨by omega, e4⟩
  obtain ⟨c, l, ec, hc⟩ := ds_ne x.natAbs
  obtain ⟨c', l', ec', hc'⟩ := ds_ne x'.natAbs
  unfold sg at e
  by_cases z : x < 0
  · by_cases z' : x' < 0
    · rw [if_pos z, if_pos z'] at e
      obtain ⟨e1, e2, e3⟩ := low_inj hr hs (by simpa using e)
      exact ⟨by rw [show x = x' by omega, e2], e3⟩
    · rw [if_pos z, if_neg z', ec'] at e
      have : 45 = c' := (List.cons.inj (by simpa using e)).1
      unfold Dg at hc'
      omega
  · by_cases z' : x' < 0
    · rw [if_neg z, if_pos z', ec] at e
      have : c = 45 := (List.cons.inj (by simpa using e)).1
      unfold Dg at hc
      omega
    · rw [if_neg z, if_neg z'] at e
      obtain ⟨e1, e2, e3⟩ := low_inj hr hs (by simpa using e)
      exact ⟨by rw [show x = x' by omega, e2], e3⟩
theorem mo_inj : ∀ {ps qs : List Pq} {f g : Fr} {r s : List Nat}, (∀ p ∈ ps, Lt p.1 ∧ 0 < p.2.2) → (∀ p ∈ qs, Lt p.1 ∧ 0 < p.2.2) → 0 < f.2 → 0 < g.2 →
    spC (ps.flatMap prC ++ [frC f]) ++ 41 :: r = spC (qs.flatMap prC ++ [frC g]) ++ 41 :: s → ps = qs ∧ f = g ∧ r = s
  | [], [], f, g, r, s, _, _, hf, hg, e => by
    have e' : 32 :: (frC f ++ 41 :: r) = 32 :: (frC g ++ 41 :: s) := by simpa [spC] using e
    obtain ⟨e1, e2⟩ := fr_inj hf hg (En.k r) (En.k s) (List.cons.inj e').2
    exact ⟨rfl, e1, (List.cons.inj e2).2⟩
  | [], q :: qs, f, g, r, s, _, hq, hf, hg, e => by
    have e' : 32 :: (frC f ++ 41 :: r) = 32 :: (frC q.2 ++ 32 :: (tmC q.1 ++ (spC (qs.flatMap prC ++ [frC g]) ++ 41 :: s))) := by simpa [spC, prC] using e
    obtain ⟨_, e2⟩ := fr_inj hf (hq q List.mem_cons_self).2 (En.k r) (En.b _) (List.cons.inj e').2
    cases e2
  | p :: ps, [], f, g, r, s, hp, _, hf, hg, e => by
    have e' : 32 :: (frC p.2 ++ 32 :: (tmC p.1 ++ (spC (ps.flatMap prC ++ [frC f]) ++ 41 :: r))) = 32 :: (frC g ++ 41 :: s) := by simpa [spC, prC] using e
    obtain ⟨_, e2⟩ := fr_inj (hp p List.mem_cons_self).2 hg (En.b _) (En.k s) (List.cons.inj e').2
    cases e2
  | p :: ps, q :: qs, f, g, r, s, hp, hq, hf, hg, e => by
    have e' : 32 :: (frC p.2 ++ 32 :: (tmC p.1 ++ (spC (ps.flatMap prC ++ [frC f]) ++ 41 :: r))) = 32 :: (frC q.2 ++ 32 :: (tmC q.1 ++ (spC (qs.flatMap prC ++ [frC g]) ++ 41 :: s))) := by simpa [spC, prC] using e
    obtain ⟨e1, e2⟩ := fr_inj (hp p List.mem_cons_self).2 (hq q List.mem_cons_self).2 (En.b _) (En.b _) (List.cons.inj e').2
    obtain ⟨e3, e4⟩ := tm_inj (hp p List.mem_cons_self).1 _ (hq q List.mem_cons_self).1 _ _ (sp_end _ _) (sp_end _ _) (List.cons.inj e2).2
    obtain ⟨e5, e6, e7⟩ := mo_inj (fun p m => hp p (List.mem_cons_of_mem _ m)) (fun p m => hq p (List.mem_cons_of_mem _ m)) hf hg e4
    exact ⟨by rw [e5, Prod.ext e3 e1], e6, e7⟩
theorem frT_inj {f g : Fr} (h : frT f = frT g) : f = g := by
  obtain ⟨a, b⟩ := f
  obtain ⟨c, d⟩ := g
  unfold frT at h
  simp only [Tr.tup.injEq, List.cons.injEq, Tr.int.injEq, and_true] at h
  exact Prod.ext h.1 h.2
theorem prT_inj {p q : Pq} (h : prT p = prT q) : p = q := by
  obtain ⟨a, b⟩ := p
  obtain ⟨c, d⟩ := q
  unfold prT at h
  simp only [Tr.tup.injEq, List.cons.injEq, and_true] at h
  exact Prod.ext h.1 (frT_inj h.2)
theorem prs_inj : ∀ {ps qs : List Pq}, ps.map prT = qs.map prT → ps = qs
  | [], [], _ => rfl
  | [], _ :: _, h => by cases h
  | _ :: _, [], h => by cases h
  | p :: ps, q :: qs, h => by
    rw [List.map_cons, List.map_cons] at h
    obtain ⟨h1, h2⟩ := List.cons.inj h
    rw [prT_inj h1, prs_inj h2]
theorem s_ne {a b : Str} {x y : List Tr} (h : a ≠ b) : Tr.tup (.str a :: x) ≠ Tr.tup (.str b :: y) := fun e => by
  simp only [Tr.tup.injEq, List.cons.injEq, Tr.str.injEq] at e
  exact h e.1
theorem lw_fl {x : Str} (h : Lw (.tup [s_ "flag", .str x])) : Nm x := by
  generalize e : Tr.tup [s_ "flag", .str x] = t at h
  cases h with
  | fl y hy =>
    simp only [Tr.tup.injEq, List.cons.injEq, Tr.str.injEq, and_true, true_and] at e
    rw [e]
    exact hy
  | mo qs g hq => exact absurd e (s_ne (by decide +kernel))
  | li t u ht hu => exact absurd e (s_ne (by decide +kernel))
  | no t ht => exact absurd e (s_ne (by decide +kernel))
  | bo l hl => exact absurd e (s_ne (by decide +kernel))
  | ei l hl => exact absurd e (s_ne (by decide +kernel))
theorem lw_mo {ps : List Pq} {f : Fr} (h : Lw (.tup [s_ "most", .tup (ps.map prT), frT f])) : ∀ p ∈ ps, Lt p.1 := by
  generalize e : Tr.tup [s_ "most", .tup (ps.map prT), frT f] = t at h
  cases h with
  | mo qs g hq =>
    simp only [Tr.tup.injEq, List.cons.injEq, and_true, true_and] at e
    rw [prs_inj e.1]
    exact hq
  | fl x hx => exact absurd e (s_ne (by decide +kernel))
  | li t u ht hu => exact absurd e (s_ne (by decide +kernel))
  | no t ht => exact absurd e (s_ne (by decide +kernel))
  | bo l hl => exact absurd e (s_ne (by decide +kernel))
  | ei l hl => exact absurd e (s_ne (by decide +kernel))
theorem lw_li {a b : Tr} (h : Lw (.tup [s_ "like", a, b])) : Lt a ∧ Lt b := by
  generalize e : Tr.tup [s_ "like", a, b] = t at h
  cases h with
  | li t u ht hu =>
    simp only [Tr.tup.injEq, List.cons.injEq, and_true, true_and] at e
    rw [e.1, e.2]
    exact ⟨ht, hu⟩
  | fl x hx => exact absurd e (s_ne (by decide +kernel))
  | mo qs g hq => exact absurd e (s_ne (by decide +kernel))
  | no t ht => exact absurd e (s_ne (by decide +kernel))
  | bo l hl => exact absurd e (s_ne (by decide +kernel))
  | ei l hl => exact absurd e (s_ne (by decide +kernel))
theorem lw_no {a : Tr} (h : Lw (.tup [s_ "not", a])) : Lw a := by
  generalize e : Tr.tup [s_ "not", a] = t at h
  cases h with
  | no t ht =>
    simp only [Tr.tup.injEq, List.cons.injEq, and_true, true_and] at e
    rw [e]
    exact ht
  | fl x hx => exact absurd e (s_ne (by decide +kernel))
  | mo qs g hq => exact absurd e (s_ne (by decide +kernel))
  | li t u ht hu => exact absurd e (s_ne (by decide +kernel))
  | bo l hl => exact absurd e (s_ne (by decide +kernel))
  | ei l hl => exact absurd e (s_ne (by decide +kernel))
theorem lw_bo {l : List Tr} (h : Lw (.tup [s_ "both", .tup l])) : ∀ t ∈ l, Lw t := by
  generalize e : Tr.tup [s_ "both", .tup l] = t at h
  cases h with
  | bo l' hl =>
    simp only [Tr.tup.injEq, List.cons.injEq, and_true, true_and] at e
    rw [e]
    exact hl
  | fl x hx => exact absurd e (s_ne (by decide +kernel))
  | mo qs g hq => exact absurd e (s_ne (by decide +kernel))
  | li t u ht hu => exact absurd e (s_ne (by decide +kernel))
  | no t ht => exact absurd e (s_ne (by decide +kernel))
  | ei l' hl => exact absurd e (s_ne (by decide +kernel))
theorem lw_ei {l : List Tr} (h : Lw (.tup [s_ "either", .tup l])) : ∀ t ∈ l, Lw t := by
  generalize e : Tr.tup [s_ "either", .tup l] = t at h
  cases h with
  | ei l' hl =>
    simp only [Tr.tup.injEq, List.cons.injEq, and_true, true_and] at e
    rw [e]
    exact hl
  | fl x hx => exact absurd e (s_ne (by decide +kernel))
  | mo qs g hq => exact absurd e (s_ne (by decide +kernel))
  | li t u ht hu => exact absurd e (s_ne (by decide +kernel))
  | no t ht => exact absurd e (s_ne (by decide +kernel))
  | bo l' hl => exact absurd e (s_ne (by decide +kernel))
theorem brk {k l : Str} {cs ds : List (List Nat)} {r s : List Nat} (hk : ∀ c ∈ cl k, Ltr c) (hl : ∀ c ∈ cl l, Ltr c) (e : (hd k ++ spC cs ++ [41]) ++ r = (hd l ++ spC ds ++ [41]) ++ s) : k = l ∧ spC cs ++ 41 :: r = spC ds ++ 41 :: s := by
  have e' : cl k ++ (spC cs ++ 41 :: r) = cl l ++ (spC ds ++ 41 :: s) := by simpa [hd] using e
  obtain ⟨e1, e2⟩ := run_eq hk hl ((sp_end _ _).st nl32 nl41) ((sp_end _ _).st nl32 nl41) e'
  exact ⟨cl_inj e1, e2⟩
theorem brk0 {x l : Str} {ds : List (List Nat)} {r s : List Nat} (hx : Nm x) (e : cl x ++ r = (hd l ++ spC ds ++ [41]) ++ s) : False := by
  obtain ⟨c, m, q, hc⟩ := nm_cl hx
  rw [q, List.cons_append] at e
  have : c = 40 := by
    have := (List.cons.inj (show c :: (m ++ r) = 40 :: (cl l ++ spC ds ++ [41] ++ s) by simpa [hd] using e)).1
    exact this
  subst this
  unfold Ltr Trm.Ltr at hc
  omega
theorem w_mo : ∀ c ∈ cl (Str.ofString "most"), Ltr c := by show ∀ c ∈ cl (Str.ofString "most"), 97 ≤ c ∧ c ≤ 122; decide +kernel
theorem w_li : ∀ c ∈ cl (Str.ofString "like"), Ltr c := by show ∀ c ∈ cl (Str.ofString "like"), 97 ≤ c ∧ c ≤ 122; decide +kernel
theorem w_no : ∀ c ∈ cl (Str.ofString "not"), Ltr c := by show ∀ c ∈ cl (Str.ofString "not"), 97 ≤ c ∧ c ≤ 122; decide +kernel
theorem w_al : ∀ c ∈ cl (Str.ofString "all"), Ltr c := by show ∀ c ∈ cl (Str.ofString "all"), 97 ≤ c ∧ c ≤ 122; decide +kernel
theorem w_an : ∀ c ∈ cl (Str.ofString "any"), Ltr c := by show ∀ c ∈ cl (Str.ofString "any"), 97 ≤ c ∧ c ≤ 122; decide +kernel
theorem wx_inj {n : Nat} {t : Tr} {c : List Nat} (h : Wx n t c) : Lw t → ∀ (m : Nat) (u : Tr) (d : List Nat), Wx m u d → Lw u → ∀ r s, En r → En s → c ++ r = d ++ s → t = u ∧ c = d ∧ r = s := by
  have fin : ∀ {t u : Tr} {c d r s : List Nat}, t = u → r = s → c ++ r = d ++ s → t = u ∧ c = d ∧ r = s := fun h1 h2 e => ⟨h1, by subst h2; exact List.append_cancel_right e, h2⟩
  have many : ∀ {l l' : List (Tr × List Nat)} {r s : List Nat} {m' : Nat}, (∀ p ∈ l, Lw p.1 → ∀ (m : Nat) (u : Tr) (d : List Nat), Wx m u d → Lw u → ∀ r s, En r → En s → p.2 ++ r = d ++ s → p.1 = u ∧ p.2 = d ∧ r = s) → (∀ p ∈ l, Lw p.1) → (∀ p ∈ l', Wx m' p.1 p.2) → (∀ p ∈ l', Lw p.1) →
      spC (l.map (·.2)) ++ 41 :: r = spC (l'.map (·.2)) ++ 41 :: s → l = l' ∧ r = s := fun {l l' r s m'} ih h1 h2 h3 e =>
    sp_inj (fun p : Tr × List Nat => p.2) (Q := fun p => Wx m' p.1 p.2 ∧ Lw p.1) (fun p mp q hq r s hr hs e => by
      obtain ⟨e1, e2, e3⟩ := ih p mp (h1 p mp) m' q.1 q.2 hq.1 hq.2 r s hr hs e
      exact ⟨Prod.ext e1 e2, e3⟩) (fun q mq => ⟨h2 q mq, h3 q mq⟩) e
  induction h with
  | fl n x hx =>
    intro ht m u d hu hlu r s hr hs e
    have hx := lw_fl ht
    cases hu with
    | fl _ y hy =>
      obtain ⟨e1, e2⟩ := run_eq (nm_ltr hx) (nm_ltr (lw_fl hlu)) (hr.st nl32 nl41) (hs.st nl32 nl41) e
      exact fin (by rw [cl_inj e1]) e2 e
    | mo => exact (brk0 hx e).elim
    | li => exact (brk0 hx e).elim
    | no => exact (brk0 hx e).elim
    | bo => exact (brk0 hx e).elim
    | ei => exact (brk0 hx e).elim
  | mo n ps f h3 hp hf =>
    intro ht m u d hu hlu r s hr hs e
    cases hu with
    | fl _ y hy => exact (brk0 (lw_fl hlu) e.symm).elim
    | mo _ qs g h3' hq hg =>
      obtain ⟨_, e2⟩ := brk w_mo w_mo e
      obtain ⟨e3, e4, e5⟩ := mo_inj (fun p m => ⟨lw_mo ht p m, (hp p m).gf.pos⟩) (fun p m => ⟨lw_mo hlu p m, (hq p m).gf.pos⟩) hf.pos hg.pos e2
      exact fin (by rw [e3, e4]) e5 e
    | li => exact absurd (brk w_mo w_li e).1 (by decide +kernel)
    | no => exact absurd (brk w_mo w_no e).1 (by decide +kernel)
    | bo => exact absurd (brk w_mo w_al e).1 (by decide +kernel)
    | ei => exact absurd (brk w_mo w_an e).1 (by decide +kernel)
  | li n t1 t2 h1 h2 =>
    intro ht m u d hu hlu r s hr hs e
    cases hu with
    | fl _ y hy => exact (brk0 (lw_fl hlu) e.symm).elim
    | mo => exact absurd (brk w_li w_mo e).1 (by decide +kernel)
    | li _ u1 u2 h1' h2' =>
      obtain ⟨_, e2⟩ := brk w_li w_li e
      obtain ⟨e3, e4⟩ := sp_inj tmC (ts := [t1, t2]) (us := [u1, u2]) (Q := Lt) (fun t m => by
        rcases List.mem_cons.mp m with rfl | m
        · exact tm_inj (lw_li ht).1
        · rw [List.mem_singleton.mp m]
          exact tm_inj (lw_li ht).2) (fun t m => by
        rcases List.mem_cons.mp m with rfl | m
        · exact (lw_li hlu).1
        · rw [List.mem_singleton.mp m]
          exact (lw_li hlu).2) e2
      simp only [List.cons.injEq, and_true] at e3
      exact fin (by rw [e3.1, e3.2]) e4 e
    | no => exact absurd (brk w_li w_no e).1 (by decide +kernel)
    | bo => exact absurd (brk w_li w_al e).1 (by decide +kernel)
    | ei => exact absurd (brk w_li w_an e).1 (by decide +kernel)
  | no n t c hx ih =>
    intro ht m u d hu hlu r s hr hs e
    cases hu with
    | fl _ y hy => exact (brk0 (lw_fl hlu) e.symm).elim
    | mo => exact absurd (brk w_no w_mo e).1 (by decide +kernel)
    | li => exact absurd (brk w_no w_li e).1 (by decide +kernel)
    | no m' u' d' hx' =>
      obtain ⟨_, e2⟩ := brk w_no w_no e
      obtain ⟨e3, e4⟩ := many (l := [(t, c)]) (l' := [(u', d')]) (m' := m') (fun p mp => by rw [List.mem_singleton.mp mp]; exact ih) (fun p mp => by rw [List.mem_singleton.mp mp]; exact lw_no ht) (fun p mp => by rw [List.mem_singleton.mp mp]; exact hx') (fun p mp => by rw [List.mem_singleton.mp mp]; exact lw_no hlu) e2
      simp only [List.cons.injEq, and_true, Prod.mk.injEq] at e3
      exact fin (by rw [e3.1]) e4 e
    | bo => exact absurd (brk w_no w_al e).1 (by decide +kernel)
    | ei => exact absurd (brk w_no w_an e).1 (by decide +kernel)
  | bo n l h3 hl ih =>
    intro ht m u d hu hlu r s hr hs e
    cases hu with
    | fl _ y hy => exact (brk0 (lw_fl hlu) e.symm).elim
    | mo => exact absurd (brk w_al w_mo e).1 (by decide +kernel)
    | li => exact absurd (brk w_al w_li e).1 (by decide +kernel)
    | no => exact absurd (brk w_al w_no e).1 (by decide +kernel)
    | bo m' l' h3' hl' =>
      obtain ⟨_, e2⟩ := brk w_al w_al e
      obtain ⟨e3, e4⟩ := many ih (fun p mp => lw_bo ht _ (List.mem_map_of_mem mp)) hl' (fun p mp => lw_bo hlu _ (List.mem_map_of_mem mp)) e2
      exact fin (by rw [e3]) e4 e
    | ei => exact absurd (brk w_al w_an e).1 (by decide +kernel)
  | ei n l h3 hl ih =>
    intro ht m u d hu hlu r s hr hs e
    cases hu with
    | fl _ y hy => exact (brk0 (lw_fl hlu) e.symm).elim
    | mo => exact absurd (brk w_an w_mo e).1 (by decide +kernel)
    | li => exact absurd (brk w_an w_li e).1 (by decide +kernel)
    | no => exact absurd (brk w_an w_no e).1 (by decide +kernel)
    | bo => exact absurd (brk w_an w_al e).1 (by decide +kernel)
    | ei m' l' h3' hl' =>
      obtain ⟨_, e2⟩ := brk w_an w_an e
      obtain ⟨e3, e4⟩ := many ih (fun p mp => lw_ei ht _ (List.mem_map_of_mem mp)) hl' (fun p mp => lw_ei hlu _ (List.mem_map_of_mem mp)) e2
      exact fin (by rw [e3]) e4 e
structure Wy (n : Nat) (t : Tr) (c : List Nat) : Prop where
  wx : Wx n t c
  lw : Lw t
theorem Wy.inj {n m : Nat} {t u : Tr} {c : List Nat} (h1 : Wy n t c) (h2 : Wy m u c) : t = u := (wx_inj h1.wx h1.lw m u c h2.wx h2.lw [] [] En.nil En.nil rfl).1
end Tw
set_option Elab.async false
set_option linter.all false
set_option maxRecDepth 100000
set_option maxHeartbeats 400000
namespace Fs
section
variable {α : Type}
open Classical in
noncomputable def add (acc : List α) (t : α) : List α := if t ∈ acc then acc else acc ++ [t]
noncomputable def firsts (acc ts : List α) : List α := ts.foldl add acc
theorem add_in {acc : List α} {t : α} (h : t ∈ acc) : add acc t = acc := by unfold add; rw [if_pos h]
theorem add_out {acc : List α} {t : α} (h : ¬ t ∈ acc) : add acc t = acc ++ [t] := by unfold add; rw [if_neg h]
theorem firsts_app (acc a b : List α) : firsts acc (a ++ b) = firsts (firsts acc a) b := by
  unfold firsts
  rw [List.foldl_append]
theorem firsts_nil (acc : List α) : firsts acc [] = acc := rfl
theorem firsts_cons (acc : List α) (t : α) (ts : List α) : firsts acc (t :: ts) = firsts (add acc t) ts := rfl
theorem firsts_one (acc : List α) (t : α) : firsts acc [t] = add acc t := rfl
theorem mem_add {acc : List α} {t u : α} : u ∈ add acc t ↔ u ∈ acc ∨ u = t := by
  by_cases m : t ∈ acc
  · rw [add_in m]
    exact ⟨.inl, fun h => h.elim id fun e => by rw [e]; exact m⟩
  · rw [add_out m]
    simp
theorem mem_fst : ∀ {ts acc : List α} {u : α}, u ∈ firsts acc ts ↔ u ∈ acc ∨ u ∈ ts
  | [], acc, u => by simp [firsts_nil]
  | t :: ts, acc, u => by
    rw [firsts_cons, mem_fst, mem_add, List.mem_cons]
    constructor
    · rintro ((h | h) | h)
      · exact .inl h
      · exact .inr (.inl h)
      · exact .inr (.inr h)
    · rintro (h | h | h)
      · exact .inl (.inl h)
      · exact .inl (.inr h)
      · exact .inr h
theorem firsts_sub : ∀ {ts acc : List α}, (∀ u ∈ ts, u ∈ acc) → firsts acc ts = acc
  | [], acc, _ => rfl
  | t :: ts, acc, h => by
    rw [firsts_cons, add_in (h t List.mem_cons_self)]
    exact firsts_sub fun u m => h u (List.mem_cons_of_mem _ m)
theorem add_len (acc : List α) (t : α) : (add acc t).length ≤ acc.length + 1 := by
  unfold add
  split <;> simp
theorem firsts_len : ∀ (ts acc : List α), (firsts acc ts).length ≤ acc.length + ts.length
  | [], acc => by simp [firsts_nil]
  | t :: ts, acc => by
    rw [firsts_cons]
    have h1 := firsts_len ts (add acc t)
    have h2 := add_len acc t
    rw [List.length_cons]
    omega
theorem firsts_idem (acc l : List α) : firsts acc (firsts [] l) = firsts acc l := by
  have key : ∀ (r acc : List α), firsts acc (firsts [] r.reverse) = firsts acc r.reverse := by
    intro r
    induction r with
    | nil => intro acc; rfl
    | cons x r ih =>
      intro acc
      rw [List.reverse_cons, firsts_app [] r.reverse [x], firsts_one, firsts_app acc r.reverse [x], firsts_one]
      by_cases m : x ∈ firsts [] r.reverse
      · rw [add_in m, ih, add_in]
        rcases mem_fst.mp m with h | h
        · cases h
        · exact mem_fst.mpr (.inr h)
      · rw [add_out m, firsts_app, firsts_one, ih]
  have := key l.reverse acc
  rwa [List.reverse_reverse] at this
end
end Fs
namespace Tw
open PySem L2 Tre Wd Mth Dec Su
theorem wx_fl {n : Nat} {x : Str} {c : List Nat} (h : Wx n (.tup [s_ "flag", .str x]) c) : c = cl x := by
  generalize e : Tr.tup [s_ "flag", .str x] = t at h
  cases h with
  | fl _ y hy =>
    simp only [Tr.tup.injEq, List.cons.injEq, Tr.str.injEq, and_true, true_and] at e
    rw [e]
  | mo => exact absurd e (s_ne (by decide +kernel))
  | li => exact absurd e (s_ne (by decide +kernel))
  | no => exact absurd e (s_ne (by decide +kernel))
  | bo => exact absurd e (s_ne (by decide +kernel))
  | ei => exact absurd e (s_ne (by decide +kernel))
theorem wx_mo {n : Nat} {ps : List Pq} {f : Fr} {c : List Nat} (h : Wx n (.tup [s_ "most", .tup (ps.map prT), frT f]) c) : c = hd "most" ++ spC (ps.flatMap prC ++ [frC f]) ++ [41] := by
  generalize e : Tr.tup [s_ "most", .tup (ps.map prT), frT f] = t at h
  cases h with
  | mo _ qs g h3 hq hg =>
    simp only [Tr.tup.injEq, List.cons.injEq, and_true, true_and] at e
    rw [prs_inj e.1, frT_inj e.2]
  | fl => exact absurd e (s_ne (by decide +kernel))
  | li => exact absurd e (s_ne (by decide +kernel))
  | no => exact absurd e (s_ne (by decide +kernel))
  | bo => exact absurd e (s_ne (by decide +kernel))
  | ei => exact absurd e (s_ne (by decide +kernel))
theorem wx_li {n : Nat} {a b : Tr} {c : List Nat} (h : Wx n (.tup [s_ "like", a, b]) c) : c = hd "like" ++ spC [tmC a, tmC b] ++ [41] := by
  generalize e : Tr.tup [s_ "like", a, b] = t at h
  cases h with
  | li _ t u ht hu =>
    simp only [Tr.tup.injEq, List.cons.injEq, and_true, true_and] at e
    rw [e.1, e.2]
  | fl => exact absurd e (s_ne (by decide +kernel))
  | mo => exact absurd e (s_ne (by decide +kernel))
  | no => exact absurd e (s_ne (by decide +kernel))
  | bo => exact absurd e (s_ne (by decide +kernel))
  | ei => exact absurd e (s_ne (by decide +kernel))
theorem wx_no {n : Nat} {a : Tr} {c : List Nat} (h : Wx n (.tup [s_ "not", a]) c) : ∃ m d, n = m + 1 ∧ Wx m a d ∧ c = hd "not" ++ spC [d] ++ [41] := by
  generalize e : Tr.tup [s_ "not", a] = t at h
  cases h with
  | no m t d hd =>
    simp only [Tr.tup.injEq, List.cons.injEq, and_true, true_and] at e
    rw [e]
    exact ⟨m, d, rfl, hd, rfl⟩
  | fl => exact absurd e (s_ne (by decide +kernel))
  | mo => exact absurd e (s_ne (by decide +kernel))
  | li => exact absurd e (s_ne (by decide +kernel))
  | bo => exact absurd e (s_ne (by decide +kernel))
  | ei => exact absurd e (s_ne (by decide +kernel))
theorem wx_bo {n : Nat} {l : List Tr} {c : List Nat} (h : Wx n (.tup [s_ "both", .tup l]) c) : ∃ m, ∃ ps : List (Tr × List Nat), n = m + 1 ∧ l = ps.map (·.1) ∧ ps.length ≤ 3 ∧ (∀ p ∈ ps, Wx m p.1 p.2) ∧ c = hd "all" ++ spC (ps.map (·.2)) ++ [41] := by
  generalize e : Tr.tup [s_ "both", .tup l] = t at h
  cases h with
  | bo m ps h3 hp =>
    simp only [Tr.tup.injEq, List.cons.injEq, and_true, true_and] at e
    exact ⟨m, ps, rfl, e, h3, hp, rfl⟩
  | fl => exact absurd e (s_ne (by decide +kernel))
  | mo => exact absurd e (s_ne (by decide +kernel))
  | li => exact absurd e (s_ne (by decide +kernel))
  | no => exact absurd e (s_ne (by decide +kernel))
  | ei => exact absurd e (s_ne (by decide +kernel))
theorem wx_ei {n : Nat} {l : List Tr} {c : List Nat} (h : Wx n (.tup [s_ "either", .tup l]) c) : ∃ m, ∃ ps : List (Tr × List Nat), n = m + 1 ∧ l = ps.map (·.1) ∧ ps.length ≤ 3 ∧ (∀ p ∈ ps, Wx m p.1 p.2) ∧ c = hd "any" ++ spC (ps.map (·.2)) ++ [41] := by
  generalize e : Tr.tup [s_ "either", .tup l] = t at h
  cases h with
  | ei m ps h3 hp =>
    simp only [Tr.tup.injEq, List.cons.injEq, and_true, true_and] at e
    exact ⟨m, ps, rfl, e, h3, hp, rfl⟩
  | fl => exact absurd e (s_ne (by decide +kernel))
  | mo => exact absurd e (s_ne (by decide +kernel))
  | li => exact absurd e (s_ne (by decide +kernel))
  | no => exact absurd e (s_ne (by decide +kernel))
  | bo => exact absurd e (s_ne (by decide +kernel))
theorem wx_det {n : Nat} {t : Tr} {c : List Nat} (h : Wx n t c) : ∀ {m : Nat} {d : List Nat}, Wx m t d → c = d := by
  have many : ∀ {l l' : List (Tr × List Nat)} {m : Nat}, (∀ p ∈ l, ∀ {m : Nat} {d : List Nat}, Wx m p.1 d → p.2 = d) → (∀ p ∈ l', Wx m p.1 p.2) → l.map (·.1) = l'.map (·.1) → l.map (·.2) = l'.map (·.2) := by
    intro l
    induction l with
    | nil =>
      intro l' m _ _ e
      cases l' with
      | nil => rfl
      | cons _ _ => cases e
    | cons p l ih =>
      intro l' m h1 h2 e
      cases l' with
      | nil => cases e
      | cons q l' =>
        rw [List.map_cons, List.map_cons] at e ⊢
        obtain ⟨e1, e2⟩ := List.cons.inj e
        have := h1 p List.mem_cons_self (m := m) (d := q.2) (by rw [e1]; exact h2 q List.mem_cons_self)
        rw [this, ih (fun p m => h1 p (List.mem_cons_of_mem _ m)) (fun p m => h2 p (List.mem_cons_of_mem _ m)) e2]
  induction h with
  | fl n x hx => intro m d h; exact (wx_fl h).symm
  | mo n ps f h3 hp hf => intro m d h; exact (wx_mo h).symm
  | li n t u h1 h2 => intro m d h; exact (wx_li h).symm
  | no n t c hx ih =>
    intro m d h
    obtain ⟨m', d', _, h1, rfl⟩ := wx_no h
    rw [ih h1]
  | bo n l h3 hl ih =>
    intro m d h
    obtain ⟨m', ps, _, e, _, h1, rfl⟩ := wx_bo h
    rw [many (fun p mp => ih p mp) h1 e]
  | ei n l h3 hl ih =>
    intro m d h
    obtain ⟨m', ps, _, e, _, h1, rfl⟩ := wx_ei h
    rw [many (fun p mp => ih p mp) h1 e]
inductive Kn : Nat → Tr → List Tr → Prop
  | at_ (n : Nat) (k : Str) (r : List Tr) : (k = "flag" ∨ k = "most" ∨ k = "like") → Kn n (.tup (.str k :: r)) []
  | no (n : Nat) (t : Tr) : Kn (n + 1) (.tup [s_ "not", t]) [t]
  | be (n : Nat) (k : Str) (l : List Tr) : (k = "both" ∨ k = "either") → l.length ≤ 3 → Kn (n + 1) (.tup [.str k, .tup l]) l
theorem wy_kn {n : Nat} {t : Tr} {c : List Nat} (h : Wy n t c) : ∃ l, Kn n t l ∧ ∀ u ∈ l, ∃ m d, n = m + 1 ∧ Wy m u d ∧ u.depth < t.depth := by
  obtain ⟨hx, hl⟩ := h
  cases hx with
  | fl _ x hx => exact ⟨[], .at_ n _ _ (.inl rfl), fun u m => by cases m⟩
  | mo _ ps f h1 h2 h3 => exact ⟨[], .at_ n _ _ (.inr (.inl rfl)), fun u m => by cases m⟩
  | li _ t u h1 h2 => exact ⟨[], .at_ n _ _ (.inr (.inr rfl)), fun u m => by cases m⟩
  | no m t d hx =>
    refine ⟨[t], .no m t, fun u mu => ?_⟩
    rw [List.mem_singleton.mp mu]
    exact ⟨m, d, rfl, ⟨hx, lw_no hl⟩, by simp only [Tr.depth, Trs.depth]; omega⟩
  | bo m l h3 hp =>
    refine ⟨_, .be m _ _ (.inl rfl) (by rw [List.length_map]; exact h3), fun u mu => ?_⟩
    obtain ⟨p, mp, rfl⟩ := List.mem_map.mp mu
    refine ⟨m, p.2, rfl, ⟨hp p mp, lw_bo hl _ mu⟩, ?_⟩
    have := depth_memT mu
    simp only [Tr.depth, Trs.depth]
    omega
  | ei m l h3 hp =>
    refine ⟨_, .be m _ _ (.inr rfl) (by rw [List.length_map]; exact h3), fun u mu => ?_⟩
    obtain ⟨p, mp, rfl⟩ := List.mem_map.mp mu
    refine ⟨m, p.2, rfl, ⟨hp p mp, lw_ei hl _ mu⟩, ?_⟩
    have := depth_memT mu
    simp only [Tr.depth, Trs.depth]
    omega
def kidsT : Tr → List Tr
  | .tup [.str k, u] => if k = "not" then [u] else if k = "both" ∨ k = "either" then (match u with | .tup l => l | _ => []) else []
  | _ => []
theorem kn_kids {n : Nat} {t : Tr} {l : List Tr} (h : Kn n t l) : kidsT t = l := by
  cases h with
  | at_ n k r hk =>
    unfold kidsT
    split
    · rename_i k' u e
      have ek : k = k' := by
        simp only [Tr.tup.injEq, List.cons.injEq, Tr.str.injEq] at e
        exact e.1
      subst ek
      have a1 : k ≠ "not" := by rcases hk with rfl | rfl | rfl <;> decide +kernel
      have a2 : ¬ (k = "both" ∨ k = "either") := by rcases hk with rfl | rfl | rfl <;> decide +kernel
      rw [if_neg a1, if_neg a2]
    · rfl
  | no n t =>
    unfold kidsT s_
    dsimp only
    rw [if_pos rfl]
  | be n k l hk h3 =>
    unfold kidsT
    dsimp only
    have a1 : k ≠ "not" := by rcases hk with rfl | rfl <;> decide +kernel
    rw [if_neg a1, if_pos hk]
def allN : Nat → Tr → List Tr
  | 0, t => [t]
  | n + 1, t => (kidsT t).flatMap (allN n) ++ [t]
theorem all_self : ∀ (n : Nat) (t : Tr), t ∈ allN n t
  | 0, t => List.mem_singleton.mpr rfl
  | n + 1, t => List.mem_append.mpr (.inr (List.mem_singleton.mpr rfl))
theorem wy_kids {n : Nat} {t : Tr} {c : List Nat} (h : Wy n t c) : Kn n t (kidsT t) ∧ ∀ u ∈ kidsT t, ∃ m d, n = m + 1 ∧ Wy m u d ∧ u.depth < t.depth := by
  obtain ⟨l, hk, hl⟩ := wy_kn h
  rw [kn_kids hk]
  exact ⟨hk, hl⟩
theorem all_eq {n : Nat} {t : Tr} {c : List Nat} (h : Wy n t c) : allN n t = (kidsT t).flatMap (allN (n - 1)) ++ [t] := by
  cases n with
  | succ n => rfl
  | zero =>
    have : kidsT t = [] := by
      cases e : kidsT t with
      | nil => rfl
      | cons u l =>
        obtain ⟨m, d, z, _⟩ := (wy_kids h).2 u (by rw [e]; exact List.mem_cons_self)
        omega
    rw [this]
    rfl
theorem all_wy : ∀ {n : Nat} {t : Tr} {c : List Nat}, Wy n t c → ∀ u ∈ allN n t, ∃ m d, m ≤ n ∧ Wy m u d ∧ u.depth ≤ t.depth := by
  intro n
  induction n with
  | zero =>
    intro t c h u m
    rw [List.mem_singleton.mp m]
    exact ⟨0, c, Nat.le_refl _, h, Nat.le_refl _⟩
  | succ n ih =>
    intro t c h u m
    rcases List.mem_append.mp m with m | m
    · obtain ⟨k, mk, mu⟩ := List.mem_flatMap.mp m
      obtain ⟨m', d, e, hk, hd⟩ := (wy_kids h).2 k mk
      have : m' = n := by omega
      subst this
      obtain ⟨a, b, h1, h2, h3⟩ := ih hk u mu
      exact ⟨a, b, by omega, h2, by omega⟩
    · rw [List.mem_singleton.mp m]
      exact ⟨n + 1, c, Nat.le_refl _, h, Nat.le_refl _⟩
theorem all_clo : ∀ {n : Nat} {t : Tr} {c : List Nat}, Wy n t c → ∀ u ∈ allN n t, ∀ x ∈ kidsT u, x ∈ allN n t := by
  intro n
  induction n with
  | zero =>
    intro t c h u m x mx
    rw [List.mem_singleton.mp m] at mx
    obtain ⟨m', d, e, _⟩ := (wy_kids h).2 x mx
    omega
  | succ n ih =>
    intro t c h u m x mx
    refine List.mem_append.mpr (.inl ?_)
    rcases List.mem_append.mp m with m | m
    · obtain ⟨k, mk, mu⟩ := List.mem_flatMap.mp m
      obtain ⟨m', d, e, hk, hd⟩ := (wy_kids h).2 k mk
      have : m' = n := by omega
      subst this
      exact List.mem_flatMap.mpr ⟨k, mk, ih hk u mu x mx⟩
    · rw [List.mem_singleton.mp m] at mx
      exact List.mem_flatMap.mpr ⟨x, mx, all_self n x⟩
def Clo (acc : List Tr) : Prop := ∀ u ∈ acc, ∀ x ∈ kidsT u, x ∈ acc
theorem Clo.all {acc : List Tr} (hc : Clo acc) : ∀ {n : Nat} {t : Tr}, t ∈ acc → ∀ u ∈ allN n t, u ∈ acc := by
  intro n
  induction n with
  | zero => intro t ht u m; rw [List.mem_singleton.mp m]; exact ht
  | succ n ih =>
    intro t ht u m
    rcases List.mem_append.mp m with m | m
    · obtain ⟨k, mk, mu⟩ := List.mem_flatMap.mp m
      exact ih (hc t ht k mk) u mu
    · rw [List.mem_singleton.mp m]; exact ht
theorem Clo.kids {acc l : List Tr} {n : Nat} (hc : Clo acc) (hl : ∀ t ∈ l, ∃ c, Wy n t c) : Clo (Fs.firsts acc (l.flatMap (allN n))) := fun u hu x hx => by
  rcases Fs.mem_fst.mp hu with h | h
  · exact Fs.mem_fst.mpr (.inl (hc u h x hx))
  · obtain ⟨k, mk, mu⟩ := List.mem_flatMap.mp h
    obtain ⟨c, hw⟩ := hl k mk
    exact Fs.mem_fst.mpr (.inr (List.mem_flatMap.mpr ⟨k, mk, all_clo hw u mu x hx⟩))
theorem self_out {n : Nat} {t : Tr} {c : List Nat} (h : Wy n t c) : ¬ t ∈ (kidsT t).flatMap (allN (n - 1)) := fun m => by
  obtain ⟨k, mk, mu⟩ := List.mem_flatMap.mp m
  obtain ⟨m', d, e, hk, hd⟩ := (wy_kids h).2 k mk
  subst e
  obtain ⟨_, _, _, _, h3⟩ := all_wy hk t mu
  omega
theorem kn_len {n : Nat} {t : Tr} {l : List Tr} (h : Kn n t l) : l.length ≤ 3 := by
  cases h with
  | at_ => simp
  | no => simp
  | be n k l hk h3 => exact h3
theorem all_len : ∀ {n : Nat} {t : Tr} {c : List Nat}, Wy n t c → (allN n t).length ≤ 4 ^ n := by
  intro n
  induction n with
  | zero => intro t c h; exact Nat.le_refl _
  | succ n ih =>
    intro t c h
    have h3 := kn_len (wy_kids h).1
    have : ∀ {l : List Tr}, (∀ u ∈ l, ∃ d, Wy n u d) → (l.flatMap (allN n)).length ≤ l.length * 4 ^ n := by
      intro l
      induction l with
      | nil => intro _; simp
      | cons a l ih2 =>
        intro hl
        obtain ⟨d, hd⟩ := hl a List.mem_cons_self
        have i1 := ih hd
        have i2 := ih2 fun u m => hl u (List.mem_cons_of_mem _ m)
        rw [List.flatMap_cons, List.length_append, List.length_cons, Nat.succ_mul]
        omega
    have i3 := this (l := kidsT t) fun u mu => by
      obtain ⟨m, d, e, hk, _⟩ := (wy_kids h).2 u mu
      have : m = n := by omega
      subst this
      exact ⟨d, hk⟩
    have i4 : (kidsT t).length * 4 ^ n ≤ 3 * 4 ^ n := Nat.mul_le_mul_right _ h3
    have i5 := Nat.pow_pos (n := n) (show 0 < 4 by decide)
    show ((kidsT t).flatMap (allN n) ++ [t]).length ≤ _
    rw [List.length_append, List.length_singleton, Nat.pow_succ]
    omega
end Tw
set_option Elab.async false
set_option linter.all false
set_option maxRecDepth 100000
set_option maxHeartbeats 1000000
namespace L2
open PySem PySem.Spec PyProof.Rows
section
variable {X : Cx}
def rSetD : V → List V → Hp → VK → Prop := fun x vs H Q => ∃ a kvs k v, x = .ref a ∧ vs = [kV k, v] ∧ H a = some (.dK kvs) ∧ kvs.length < sizeLine ∧
  (∀ z, valV kvs k = some z → Q z H) ∧ (valV kvs k = none → Q v (upd H a (.dK (kvs ++ [(k, v)]))))
theorem mt_setdefault : MtM X "dict.setdefault" rSetD := by
  intro pins s σ H x vs u us Q I rx rv h
  obtain ⟨a, kvs, k, v, rfl, rfl, hH, hz, h1, h2⟩ := h
  cases rx
  obtain ⟨u1, u2, rfl, r1, r2⟩ := rv.two
  obtain ⟨z, hd, ws, rel, dd⟩ := dk_of I.hok hH
  refine call_meetsIn PySem.F.slot_dict_setdefault dd.typeIs PySem.F.entry_dict_setdefault (PySem.F.args_dict_setdefault_3 _ _ _) (kt_meets_setdefault (mixKind X.prog X.w) a (kV_is r1) hd u2)
    ⟨ws, dd, by rw [← rel.length]; exact z, fun q hq => ?_, fun hq h' dd' hs => ?_⟩
  · have rk := rel.val k
    rw [hq] at rk
    cases e : valV kvs k with
    | none => rw [e] at rk; exact rk.elim
    | some y => rw [e] at rk; exact ⟨y, H, I.tok _, rk, h1 y e⟩
  · have rk := rel.val k
    rw [hq] at rk
    cases e : valV kvs k with
    | some y => rw [e] at rk; exact rk.elim
    | none =>
      have he : ∃ q, h'.get? a = some q := let ⟨q, _, _, hq, _⟩ := dd'; ⟨q, hq⟩
      have hp := rel.put k r2
      rw [putK_new v e] at hp
      exact ⟨v, _, d_write I (by rw [hH]; exact True.intro) hs he (dk_new (by rw [List.length_append, List.length_singleton]; omega) hd hp dd'), r2, h2 e⟩
def ViewV (v d : Addr) : HO := .ext fun h => h.IsValuesView v d
theorem view_ok {P : Program} {w : World} {H : Hp} {h : Heap} {v d : Addr} (x : h.IsValuesView v d) : ObjOk P w H h v (ViewV v d) := by
  obtain ⟨o, e, r⟩ := x
  exact ⟨⟨o, e, r⟩, ⟨_, e⟩, fun _ _ ⟨o', y, c⟩ k => ⟨o', k _ y, c⟩⟩
def rValues : V → List V → Hp → VK → Prop := fun x vs H Q => ∃ a kvs, x = .ref a ∧ vs = [] ∧ H a = some (.dK kvs) ∧ ∀ v, H v = none → Q (.ref v) (upd H v (ViewV v a))
theorem mt_values : MtM X "dict.values" rValues := by
  intro pins s σ H x vs u us Q I rx rv h
  obtain ⟨a, kvs, rfl, rfl, hH, q⟩ := h
  cases rx
  cases rv.zero
  obtain ⟨z, hd, ws, rel, dd⟩ := dk_of I.hok hH
  refine call_meetsIn PySem.F.slot_dict_values dd.typeIs PySem.F.entry_dict_values (PySem.F.args_dict_values_1 _) (meets_dict_values (mixKind X.prog X.w) a hd) ⟨⟨ws, dd⟩, ?_⟩
  exact ⟨.ref _, _, I.laid (t' := s.toks) (fun b ob e => Heap.get?_push_of_some _ e) (Nat.le_refl _) (view_ok ⟨_, Heap.get?_push_size _ rfl, rfl, rfl⟩), rfl, q _ (I.hok.fresh (Nat.le_refl _))⟩
theorem call_listV (hc : X.calm = true) : CallR X (.type "list") (fun xs H Q => ∃ v a kvs, xs = [.ref v] ∧ H v = some (ViewV v a) ∧ H a = some (.dK kvs) ∧ ∀ l, H l = none → Q (.ref l) (upd H l (.lst (kvs.map (·.2))))) := by
  intro pins s σ H xs us Q I r h
  obtain ⟨v, a, kvs, rfl, hv, hH, q⟩ := h
  obtain ⟨u, rfl, ru⟩ := vals1 r
  cases ru
  obtain ⟨z, hd, ws, rel, dd⟩ := dk_of I.hok hH
  obtain ⟨hview, _⟩ := (show ObjOk X.prog X.w H s.heap v (ViewV v a) from I.hok v _ hv)
  obtain ⟨ep, hat⟩ := dd.dictAt
  refine PySem.W.kdl_call (PySem.W.kdl_values (knd := mixKind X.prog X.w) (kvs := ws) (ep := ep)) (I.ok.hd hc) ⟨hview, hat⟩ (by rw [← rel.length]; exact z) fun h' tk acc' c' hk hD hacc => ?_
  have e : acc'.toList = ws.map (·.2) := PySem.W.kdl_vals_eq acc'.toList (by rw [Array.length_toList]; exact hacc.1) fun j x ex => hacc.2 j x (by rw [← Array.getElem?_toList]; exact ex)
  have rr : Vals (kvs.map (·.2)) acc'.toList := by
    rw [e]
    clear e hacc hD hk hat dd z q hH
    induction rel with
    | nil => exact .nil
    | cons r1 _ ih => exact .cons r1.2 ih
  refine ⟨.ref _, _, I.laid (t' := tk) (o := .lst (kvs.map (·.2))) hk (Nat.le_refl _) ⟨by rw [List.length_map]; exact z, acc'.toList, c', rr, by rw [Array.toArray_toList]; exact hD⟩, rfl, q _ (I.hok.fresh (Nat.le_refl _))⟩
end
end L2
set_option Elab.async false
set_option linter.all false
set_option maxRecDepth 100000
set_option maxHeartbeats 1000000
namespace L2
open PySem PySem.Spec PyProof.Rows
section
variable {prog : Program} {w : World} {A : Around} {R : Result → Shared → Prop} {it S : Addr} {fp wr : List Addr} {n : Nat} {P : Nat → Value → Prop} {St : Nat → Heap → Prop} {kw : List (Str × Value)}
end
section
variable {X : Cx}
end
end L2
set_option Elab.async false
set_option linter.all false
set_option maxRecDepth 100000
set_option maxHeartbeats 4000000
namespace K77
open PySem L2 Mth Tre Wd Su Tw
def Wk (t : Tr) : Prop := ∃ n c, n ≤ 2 ∧ Wy n t c
def Rk (H : Hp) (e : Key × V) (t : Tr) : Prop := ∃ (z : Str) (n : Nat), e.1 = Sum.inr z ∧ n ≤ 2 ∧ Wy n t (Dec.cl z) ∧ TrAt H e.2 t
def DictW (H : Hp) (kvs : List (Key × V)) (acc : List Tr) : Prop := Paired (Rk H) kvs acc
def But1 (d : Addr) (H H' : Hp) : Prop := ∀ x o, x ≠ d → H x = some o → H' x = some o
theorem But1.trans {d : Addr} {H H1 H2 : Hp} (a : But1 d H H1) (b : But1 d H1 H2) : But1 d H H2 := fun x o n e => b x o n (a x o n e)
theorem But1.of_same {d : Addr} {H H' : Hp} (s : Same H H') : But1 d H H' := fun x o _ e => s x o e
theorem But1.kd {d : Addr} {H H' : Hp} {kvs : List (Key × V)} (hd : H d = some (.dK kvs)) (b : But1 d H H') : Kd H H' := by
  have ne : ∀ {a : Addr} {o : HO}, H a = some o → (∀ z, o ≠ .dK z) → a ≠ d := fun e h z => by
    rw [z, hd] at e
    exact h _ (Option.some.inj e).symm
  exact ⟨fun a xs e => b a _ (ne e fun z t => by cases t) e, fun a xs e => ⟨xs, b a _ (ne e fun z t => by cases t) e⟩⟩
theorem DictW.mono {H H' : Hp} {kvs : List (Key × V)} {acc : List Tr} (h : DictW H kvs acc) (k : Kd H H') : DictW H' kvs acc := Paired.imp' (fun e t ⟨z, n, a, b, c, d⟩ => ⟨z, n, a, b, c, d.mono k⟩) h
theorem DictW.len {H : Hp} {kvs : List (Key × V)} {acc : List Tr} (h : DictW H kvs acc) : kvs.length = acc.length := Paired.length h
theorem DictW.vals {H : Hp} {kvs : List (Key × V)} {acc : List Tr} (h : DictW H kvs acc) : TrsAt H (kvs.map (·.2)) acc := by
  unfold DictW at h
  induction h with
  | nil => exact .nil
  | cons h1 _ ih =>
    obtain ⟨z, n, _, _, _, d⟩ := h1
    exact .cons d ih
theorem DictW.wk {H : Hp} {kvs : List (Key × V)} {acc : List Tr} (h : DictW H kvs acc) : ∀ t ∈ acc, Wk t := by
  unfold DictW at h
  induction h with
  | nil => intro t m; cases m
  | cons h1 _ ih =>
    intro t m
    rcases List.mem_cons.mp m with rfl | m
    · obtain ⟨z, n, _, a, b, _⟩ := h1
      exact ⟨n, _, a, b⟩
    · exact ih t m
theorem DictW.none_iff {H : Hp} {kvs : List (Key × V)} {acc : List Tr} {t : Tr} {n : Nat} {z : Str} (h : DictW H kvs acc) (hw : Wy n t (Dec.cl z)) : valV kvs (Sum.inr z) = none ↔ ¬ t ∈ acc := by
  have e := valV_any (Sum.inr z : Key) kvs
  have e2 : (kvs.any fun kv => decide (kv.1 = (Sum.inr z : Key))) = true ↔ t ∈ acc := by
    clear e
    unfold DictW at h
    induction h with
    | nil => simp
    | @cons kv u kvs us h1 _ ih =>
      rw [List.any_cons, Bool.or_eq_true, List.mem_cons, ih]
      have : decide (kv.1 = (Sum.inr z : Key)) = true ↔ t = u := by
        obtain ⟨z', n', a, _, b, _⟩ := h1
        rw [decide_eq_true_iff, a]
        constructor
        · intro q
          have q' := Sum.inr.inj q
          subst q'
          exact hw.inj b
        · rintro rfl
          have := wx_det b.wx hw.wx
          rw [Dec.cl_inj this]
      rw [this]
  rw [← e2, e]
  cases valV kvs (Sum.inr z : Key) <;> simp
section
variable {P : Program} {w : World} {K : PySem.W.Frag} {mg : Str → Option Value} {base : Heap}
def spWr : Sp := fun vs H Q _ => ∃ (v : V) (t : Tr) (n : Nat) (l : List Tr), vs = [v] ∧ TrAt H v t ∧ Kn n t l ∧ ∀ L ws, H L = none → TrsAt H ws l → Q (.ref L) (upd H L (.lst ws))
theorem scWr : FnScope ["wish"] ["wish"] (defScope sWr) := ⟨rfl, rfl, rfl, by decide +kernel, rfl, by decide +kernel, by decide +kernel⟩
theorem ok_wr {f : Addr} {fd : FuncData} (F : Fun K "wishes_right_in" "wishes_right_in" sWr f fd) (B : Blt mg) : FnOk P w K mg base CX0 1 f fd ["wish"] spWr := by
  refine F.ok scWr (fun vs H Q E h => ?_) (fun cdv A outer s H vs Q E hr h => ?_)
  · obtain ⟨v, t, n, l, rfl, _⟩ := h
    rfl
  obtain ⟨v, t, n, l, rfl, hv, hk, k⟩ := h
  refine ⟨_, pss_cons (ps_if (pt_cmpR op_eq (pe_ix ix_tup (pv 0) pe_int fun _ _ => rfl) pe_str (nomark _)) (pss_one (ps_ret (pe_lst (pa_cons (pe_ix ix_tup (pv 0) pe_int fun _ _ => rfl) pa_nil)))) pss_nil)
    (pss_cons (ps_if (PW.pt (pw_or (pt_cmpR op_eq (pe_ix ix_tup (pv 0) pe_int fun _ _ => rfl) pe_str (nomark _)) (pw_or1 (pt_cmpR op_eq (pe_ix ix_tup (pv 0) pe_int fun _ _ => rfl) pe_str (nomark _))))) (pss_one (ps_ret (pe_callTy call_list_of rfl B.li PyProof.Rows.boot_list (pa_cons (pe_ix ix_tup (pv 0) pe_int fun _ _ => rfl) pa_nil)))) pss_nil)
    (pss_one (ps_ret (pe_lst pa_nil)))), ?_⟩
  have step : ∀ {r : Addr} {kk : Str} {vs : List V}, H r = some (.tup (.str kk :: vs)) → atI (.str kk :: vs) 0 = some (.str kk) := fun _ => atI_nat (j := 0) rfl
  cases hk with
  | at_ n kk r hk =>
    obtain ⟨r', vs, rfl, h1, h2⟩ := first_at hv
    have a1 : kk ≠ "not" := by rcases hk with rfl | rfl | rfl <;> decide +kernel
    have a2 : kk ≠ "both" := by rcases hk with rfl | rfl | rfl <;> decide +kernel
    have a3 : kk ≠ "either" := by rcases hk with rfl | rfl | rfl <;> decide +kernel
    refine ⟨_, rfl, r', _, 0, .str kk, rfl, rfl, SqT.of h1, step h1, rfl, _, rfl, ?_⟩
    rw [decide_eq_false (fun e => a1 (V.str.inj e))]
    refine iteF ?_
    refine ⟨_, rfl, r', _, 0, .str kk, rfl, rfl, SqT.of h1, step h1, rfl, _, rfl, ?_⟩
    rw [decide_eq_false (fun e => a2 (V.str.inj e))]
    refine iteF ?_
    refine ⟨_, rfl, r', _, 0, .str kk, rfl, rfl, SqT.of h1, step h1, rfl, _, rfl, ?_⟩
    rw [decide_eq_false (fun e => a3 (V.str.inj e))]
    refine iteF ?_
    exact ⟨by show 0 ≤ sizeLine; decide, fun L nL => k L [] nL .nil⟩
  | no n t =>
    obtain ⟨r, y, rfl, h1, h2⟩ := at2 hv
    refine ⟨_, rfl, r, _, 0, .str "not", rfl, rfl, SqT.of h1, rfl, rfl, _, rfl, ?_⟩
    rw [decide_eq_true rfl]
    exact iteT ⟨_, rfl, r, _, 1, y, rfl, rfl, SqT.of h1, rfl, by show 1 ≤ sizeLine; decide, fun L nL => k L [y] nL (.cons h2 .nil)⟩
  | be n kk l hk h3 =>
    obtain ⟨r, y, rfl, h1, h2⟩ := at2 hv
    obtain ⟨q, vs, rfl, h4, h5⟩ := at_t h2
    have a1 : kk ≠ "not" := by rcases hk with rfl | rfl <;> decide +kernel
    refine ⟨_, rfl, r, _, 0, .str kk, rfl, rfl, SqT.of h1, rfl, rfl, _, rfl, ?_⟩
    rw [decide_eq_false (fun e => a1 (V.str.inj e))]
    refine iteF ?_
    refine ⟨_, rfl, r, _, 0, .str kk, rfl, rfl, SqT.of h1, rfl, rfl, _, rfl, ?_⟩
    by_cases z : kk = "both"
    · rw [decide_eq_true (congrArg V.str z)]
      refine iteT ?_
      exact iteT ⟨_, rfl, r, _, 1, .ref q, rfl, rfl, SqT.of h1, rfl, q, vs, rfl, .inr (SqT.of h4), fun L nL => k L vs nL h5⟩
    · have z2 : kk = "either" := hk.resolve_left z
      rw [decide_eq_false (fun e => z (V.str.inj e))]
      refine iteF ?_
      refine ⟨_, rfl, r, _, 0, .str kk, rfl, rfl, SqT.of h1, rfl, rfl, _, rfl, ?_⟩
      rw [decide_eq_true (congrArg V.str z2)]
      exact iteT ⟨_, rfl, r, _, 1, .ref q, rfl, rfl, SqT.of h1, rfl, q, vs, rfl, .inr (SqT.of h4), fun L nL => k L vs nL h5⟩
def spGp (n : Nat) : Sp := fun vs H Q _ => ∃ (v : V) (t : Tr) (c : List Nat) (m : Nat) (d : Addr) (kvs : List (Key × V)) (acc : List Tr), vs = [v, .ref d] ∧ TrAt H v t ∧ Wy m t c ∧ m < n ∧ n ≤ 3 ∧ H d = some (.dK kvs) ∧ DictW H kvs acc ∧ Clo acc ∧ acc.length + (allN m t).length ≤ 10000 ∧
  ∀ H' kvs', But1 d H H' → H' d = some (.dK kvs') → DictW H' kvs' (Fs.firsts acc (allN m t)) → Q .non H'
theorem scGp : FnScope ["wish", "found", "text", "inner"] ["wish", "found"] (defScope sGp) := ⟨rfl, rfl, rfl, by decide +kernel, rfl, by decide +kernel, by decide +kernel⟩
theorem flat_take {l : List Tr} {i n : Nat} {t : Tr} (e : l[i]? = some t) : (l.take (i + 1)).flatMap (allN n) = (l.take i).flatMap (allN n) ++ allN n t := by
  rw [List.take_add_one, e, List.flatMap_append]
  simp
theorem flat_take_le (l : List Tr) (i n : Nat) : ((l.take i).flatMap (allN n)).length ≤ (l.flatMap (allN n)).length := by
  have : l.flatMap (allN n) = (l.take i).flatMap (allN n) ++ (l.drop i).flatMap (allN n) := by rw [← List.flatMap_append, List.take_append_drop]
  rw [this, List.length_append]
  omega
theorem ok_gp {f fT fS : Addr} {fd fdT fdS : FuncData} (F : Fun K "gather_parts" "gather_parts" sGp f fd) (bF : Binds K fd ["wish", "found"] []) (mF : mg "gather_parts" = some (.ref f))
    (GT : FnOk P w K mg base CX0 1 fT fdT ["wish"] spWr) (kT : PySem.W.keepIn K (.ref fT) = true) (bT : Binds K fdT ["wish"] []) (mT : mg "wishes_right_in" = some (.ref fT))
    (GS : FnOk P w K mg base CX0 20 fS fdS ["wish"] (spSw 4)) (kS : PySem.W.keepIn K (.ref fS) = true) (bS : Binds K fdS ["wish"] []) (mS : mg "shown_wish" = some (.ref fS)) :
    ∀ n, FnOk P w K mg base CX0 (n + 20) f fd ["wish", "found"] (spGp n) := by
  intro n
  induction n with
  | zero => exact ⟨fun vs H Q E ⟨_, _, _, _, _, _, _, _, _, _, h, _⟩ => absurd h (by omega), fun A outer s H args us vs Q E _ _ _ _ ⟨_, _, _, _, _, _, _, _, _, _, h, _⟩ => absurd h (by omega)⟩
  | succ n ih =>
    refine F.ok scGp (fun vs H Q E h => ?_) (fun cdv A outer s H vs Q E hr h => ?_)
    · obtain ⟨v, t, c, m, d, kvs, acc, rfl, _⟩ := h
      rfl
    obtain ⟨v, t, c, m, d, kvs, acc, rfl, hv, hw, hm, hn, hd, hD, hcl, hsz, k⟩ := h
    have hr1 : Room 1 _ := hr.mono (by omega)
    have hrS : Room 20 _ := hr.mono (by omega)
    have hu1 := hu_of hr
    refine ⟨_, pss_cons (ps_set (i := 2) scGp.nd rfl (Or.inl rfl) (pe_call GS hrS rfl mS kS bS .nil pass0 (pa_cons (pv 0) pa_nil)))
      (pss_one (ps_if (pt_cmp (pc_dnotin hu1 (pv 2) (pv 1)))
        (pss_cons (ps_for PassesOwn.never rfl (pi_list (pe_call GT hr1 rfl mT kT bT .nil pass0 (pa_cons (pv 0) pa_nil))) (pg_name (i := 3) scGp.nd rfl (Or.inl rfl)) (pss_one (ps_expr (pe_call ih hr rfl mF F.kp bF .nil pass0 (pa_cons (pv 3) (pa_cons (pv 1) pa_nil))))))
        (pss_one (ps_dput hu1 (pv 1) (pv 2) (pv 0) rfl))) pss_nil)), ?_⟩
    have hL : (20000 : Nat) ≤ sizeLine := by decide +kernel
    obtain ⟨hkn, hkids⟩ := wy_kids hw
    have eall := all_eq hw
    refine ⟨_, rfl, v, t, c, m, rfl, hv, hw.wx, by omega, by omega, fun z H0 s0 ez => ?_⟩
    subst ez
    have hd0 := s0 _ _ hd
    have hD0 := hD.mono (Kd.of_same s0)
    refine ⟨_, rfl, _, rfl, d, _, rfl, DGet.k (k := Sum.inr z) hd0, _, rfl, ?_⟩
    by_cases mt : t ∈ acc
    · have nz : valV kvs (Sum.inr z : Key) ≠ none := fun q => (hD0.none_iff hw).mp q mt
      have e : (!(valV kvs (Sum.inr z : Key)).isSome) = false := by
        cases q : valV kvs (Sum.inr z : Key) with
        | none => exact absurd q nz
        | some y => rfl
      rw [e]
      refine iteF ?_
      refine k H0 kvs (But1.of_same s0) hd0 ?_
      rw [Fs.firsts_sub (hcl.all mt)]
      exact hD0
    · have e : (!(valV kvs (Sum.inr z : Key)).isSome) = true := by rw [(hD0.none_iff hw).mpr mt]; rfl
      rw [e]
      refine iteT ?_
      refine ⟨_, rfl, v, t, m, _, rfl, hv.mono (Kd.of_same s0), hkn, fun l ws nl hws => ⟨l, rfl, ⟨ws, SqL.of upd_same⟩, ?_⟩⟩
      have ldn : l ≠ d := fun q => by rw [q, hd0] at nl; cases nl
      have s1 : Same H (upd H0 l (.lst ws)) := s0.trans (same_upd nl)
      have hd1 : (upd H0 l (.lst ws)) d = some (.dK kvs) := s1 _ _ hd
      have hlen := hws.len
      have hlenA : (allN m t).length = ((kidsT t).flatMap (allN (m - 1))).length + 1 := by rw [eall, List.length_append, List.length_singleton]
      have hkw : ∀ u ∈ kidsT t, ∃ c, Wy (m - 1) u c := fun u mu => by
        obtain ⟨m', d', e', h', _⟩ := hkids u mu
        subst e'
        exact ⟨d', h'⟩
      refine for_list (xs := ws) (fun i σ H' => (∃ vi, σ = [some v, some (.ref d), some (.str z), vi]) ∧ But1 d (upd H0 l (.lst ws)) H' ∧ ∃ kvs', H' d = some (.dK kvs') ∧ DictW H' kvs' (Fs.firsts acc (((kidsT t).take i).flatMap (allN (m - 1)))))
        ⟨⟨none, rfl⟩, fun x o _ e => e, kvs, hd1, hD.mono (Kd.of_same s1)⟩ (fun i σ H' _ p => SqL.of (p.2.1 _ _ ldn upd_same)) ?_ ?_
      · rintro i x σ H' ex ⟨⟨vi, rfl⟩, b1, kvs', hd', hD'⟩
        obtain ⟨u, eu, hu⟩ := hws.get' ex
        have mu := List.mem_of_getElem? eu
        obtain ⟨m', d', e', h', _⟩ := hkids u mu
        subst e'
        have tp0 : Kd H0 H' := (Kd.of_same (same_upd nl)).trans (b1.kd hd1)
        have hle := flat_take_le (kidsT t) (i + 1) (m' + 1 - 1)
        rw [flat_take eu, List.length_append] at hle
        have hfl := Fs.firsts_len (((kidsT t).take i).flatMap (allN (m' + 1 - 1))) acc
        refine ⟨_, rfl, _, rfl, x, u, d', m', d, kvs', _, rfl, hu.mono tp0, h', by omega, by omega, hd', hD', hcl.kids fun y my => hkw y (List.mem_of_mem_take my), ?_, fun H2 kvs2 b2 hd2 hD2 => ?_⟩
        · have e3 : m' + 1 - 1 = m' := by omega
          rw [e3] at hle hfl hlenA ⊢
          omega
        · refine ⟨⟨_, rfl⟩, b1.trans b2, kvs2, hd2, ?_⟩
          rw [flat_take eu, Fs.firsts_app]
          exact hD2
      · rintro σ H' ⟨⟨vi, rfl⟩, b1, kvs', hd', hD'⟩
        rw [hlen, List.take_length] at hD'
        have tp : Kd H H' := (Kd.of_same s1).trans (b1.kd hd1)
        have hfl := Fs.firsts_len ((kidsT t).flatMap (allN (m - 1))) acc
        have e0 : Fs.firsts acc (allN m t) = Fs.add (Fs.firsts acc ((kidsT t).flatMap (allN (m - 1)))) t := by rw [eall, Fs.firsts_app, Fs.firsts_one]
        have bb : But1 d H H' := (But1.of_same s1).trans b1
        have mo : ¬ t ∈ Fs.firsts acc ((kidsT t).flatMap (allN (m - 1))) := fun q => (Fs.mem_fst.mp q).elim mt (self_out hw)
        have ez := (hD'.none_iff hw).mpr mo
        refine ⟨_, rfl, _, rfl, _, rfl, d, _, rfl, DPut.k (k := Sum.inr z) hd' (by rw [hD'.len]; omega), ?_⟩
        rw [putK_new _ ez]
        refine k _ _ (bb.trans fun x o nx e => by rw [upd_ne nx]; exact e) upd_same ?_
        rw [e0, Fs.add_out mo]
        have tp2 : Kd H' (upd H' d (.dK (kvs' ++ [(Sum.inr z, v)]))) := Dj.Kd.updK hd'
        exact Paired.snoc (hD'.mono tp2) ⟨z, m, rfl, by omega, hw, hv.mono (tp.trans tp2)⟩
def spPo : Sp := fun vs H Q _ => ∃ (v : V) (t : Tr) (c : List Nat), vs = [v] ∧ TrAt H v t ∧ Wy 2 t c ∧ ∀ r H' ws, H r = none → Same H H' → H' r = some (.lst ws) → TrsAt H' ws (Fs.firsts [] (allN 2 t)) → Q (.ref r) H'
theorem scPo : FnScope ["wish", "found"] ["wish"] (defScope sPo) := ⟨rfl, rfl, rfl, by decide +kernel, rfl, by decide +kernel, by decide +kernel⟩
theorem ok_po {f fG : Addr} {fd fdG : FuncData} (F : Fun K "parts_of" "parts_of" sPo f fd) (GG : FnOk P w K mg base CX0 23 fG fdG ["wish", "found"] (spGp 3)) (kG : PySem.W.keepIn K (.ref fG) = true) (bG : Binds K fdG ["wish", "found"] []) (mG : mg "gather_parts" = some (.ref fG)) (B : Blt mg) :
    FnOk P w K mg base CX0 24 f fd ["wish"] spPo := by
  refine F.ok scPo (fun vs H Q E h => ?_) (fun cdv A outer s H vs Q E hr h => ?_)
  · obtain ⟨v, t, c, rfl, _⟩ := h
    rfl
  obtain ⟨v, t, c, rfl, hv, hw, k⟩ := h
  refine ⟨_, pss_cons (ps_set (i := 1) scPo.nd rfl (Or.inl rfl) pe_dnewK)
    (pss_cons (ps_expr (pe_call GG hr rfl mG kG bG .nil pass0 (pa_cons (pv 0) (pa_cons (pv 1) pa_nil))))
    (pss_one (ps_ret (pe_callTy (call_listV rfl) rfl B.li PyProof.Rows.boot_list (pa_cons (pe_bm0 PySem.F.plainAttrs_dict PySem.F.slot_dict_values PySem.F.type_dict_values mt_values (pv 1)) pa_nil))))), ?_⟩
  intro d nd
  have s1 : Same H (upd H d (.dK [])) := same_upd nd
  have hal := all_len hw
  have e16 : 4 ^ 2 = 16 := by decide
  refine ⟨_, rfl, _, rfl, v, t, c, 2, d, [], [], rfl, hv.mono (Kd.of_same s1), hw, by decide, by decide, upd_same, Paired.nil, (fun u m => by cases m), by simp only [List.length_nil]; omega, fun H2 kvs2 b2 hd2 hD2 => ?_⟩
  refine ⟨_, rfl, .inr (.inr (.inl ⟨rfl, .inl ⟨kvs2, hd2⟩⟩)), d, kvs2, rfl, rfl, hd2, fun x nx => ?_⟩
  have s3 : Same H2 (upd H2 x (ViewV x d)) := same_upd nx
  refine ⟨x, d, kvs2, rfl, upd_same, s3 _ _ hd2, fun l nl => ?_⟩
  have sH : Same H (upd (upd H2 x (ViewV x d)) l (.lst (kvs2.map (·.2)))) := fun y o e => same_upd nl _ _ (s3 _ _ (b2 y o (ne_of_none e nd) (s1 _ _ e)))
  refine k l _ _ ?_ sH upd_same (hD2.vals.mono (Kd.of_same (s3.trans (same_upd nl))))
  have n2 := s3.free nl
  cases e : H l with
  | none => rfl
  | some o => rw [b2 l o (ne_of_none e nd) (s1 _ _ e)] at n2; cases n2
end
end K77
set_option Elab.async false
set_option linter.all false
set_option maxRecDepth 100000
set_option maxHeartbeats 400000
namespace Tw
open PySem L2 Tre Wd Mth Dec Su
theorem wx_ty {n : Nat} {t : Tr} {c : List Nat} (h : Wx n t c) : Ty .ws t ∧ t.depth ≤ 2 * n + 10 := by
  induction h with
  | fl n x _ => exact ⟨.fl x, by simp only [Tr.depth, Trs.depth]; omega⟩
  | mo n ps f h1 h2 h3 =>
    have hp : ∀ p ∈ ps.map prT, Ty .pr p ∧ p.depth ≤ 8 := fun p m => by
      obtain ⟨q, mq, rfl⟩ := List.mem_map.mp m
      have hq := h2 q mq
      refine ⟨.pr _ _ hq.tb.ty (.fr _ _), ?_⟩
      have := hq.tb.dep
      unfold prT frT
      simp only [Tr.depth, Trs.depth]
      omega
    refine ⟨.mo _ _ (fun p m => (hp p m).1) (.fr _ _), ?_⟩
    have := depths_le fun p m => (hp p m).2
    unfold frT
    simp only [Tr.depth, Trs.depth]
    omega
  | li n t u h1 h2 =>
    refine ⟨.li t u h1.ty h2.ty, ?_⟩
    have := h1.dep
    have := h2.dep
    simp only [Tr.depth, Trs.depth]
    omega
  | no n t c _ ih =>
    refine ⟨.no t ih.1, ?_⟩
    have := ih.2
    simp only [Tr.depth, Trs.depth]
    omega
  | bo n l h3 hl ih =>
    have hp : ∀ t ∈ l.map (·.1), Ty .ws t ∧ t.depth ≤ 2 * n + 10 := fun t m => by
      obtain ⟨q, mq, rfl⟩ := List.mem_map.mp m
      exact ih q mq
    refine ⟨.bo _ fun t m => (hp t m).1, ?_⟩
    have := depths_le fun t m => (hp t m).2
    simp only [Tr.depth, Trs.depth]
    omega
  | ei n l h3 hl ih =>
    have hp : ∀ t ∈ l.map (·.1), Ty .ws t ∧ t.depth ≤ 2 * n + 10 := fun t m => by
      obtain ⟨q, mq, rfl⟩ := List.mem_map.mp m
      exact ih q mq
    refine ⟨.ei _ fun t m => (hp t m).1, ?_⟩
    have := depths_le fun t m => (hp t m).2
    simp only [Tr.depth, Trs.depth]
    omega
theorem ty_same {k : So} {t u : Tr} (h1 : Ty k t) (h2 : Ty k u) (e : eqT t u = true) : t = u := ty_eq t.depth (Nat.le_refl _) h1 h2 ((eqT_code t u).mp e)
open Classical in
theorem any_mem {ts : List Tr} {t : Tr} (h1 : ∀ u ∈ ts, Ty .ws u) (h2 : Ty .ws t) : (ts.any fun u => eqT u t) = decide (t ∈ ts) := by
  rw [Bool.eq_iff_iff, List.any_eq_true, decide_eq_true_iff]
  constructor
  · rintro ⟨u, m, e⟩
    rw [← ty_same (h1 u m) h2 e]
    exact m
  · intro m
    exact ⟨t, m, eqT_refl t⟩
end Tw
set_option Elab.async false
set_option linter.all false
set_option maxHeartbeats 400000
namespace L2
open PySem Tre
def litEs (f : Expr → Option Tr) : List Expr → Option (List Tr)
  | [] => some []
  | e :: es => match f e, litEs f es with
    | some t, some ts => some (t :: ts)
    | _, _ => none
def litE : Nat → Expr → Option Tr
  | 0, _ => none
  | n + 1, e => match e with
    | .Constant (.str x) _ _ => some (.str x)
    | .Constant (.int i) _ _ => some (.int i)
    | .UnaryOp .USub (.Constant (.int i) _ _) _ => some (.int (-i))
    | .Tuple es _ _ => if es.length ≤ 100 then (litEs (litE n) es).map .tup else none
    | _ => none
def litL (n : Nat) : Expr → Option (List Tr)
  | .List es _ => if es.length ≤ 100 then litEs (litE n) es else none
  | _ => none
def tLit (t : Tr) : TE := fun _ H Q => ∀ v H', Same H H' → TrAt H' v t → Q v H'
def tLits (ts : List Tr) : TA := fun _ H Q => ∀ vs H', Same H H' → TrsAt H' vs ts → Q vs H'
def tLitL (ts : List Tr) : TE := fun _ H Q => ∀ r vs H', Same H H' → H r = none → H' r = some (.lst vs) → TrsAt H' vs ts → Q (.ref r) H'
section
variable {X : Cx}
theorem PE.imp {e : Expr} {t u : TE} (h : PE X e t) (k : ∀ σ H Q, u σ H Q → t σ H Q) : PE X e u := fun pins s σ H Q I q => h pins s σ H Q I (k σ H Q q)
theorem PA.imp {es : List Expr} {t u : TA} (h : PA X es t) (k : ∀ σ H Q, u σ H Q → t σ H Q) : PA X es u := fun pos pins s σ H Q I q => h pos pins s σ H Q I (k σ H Q q)
theorem same_up {H : Hp} {p : Addr} {o : HO} (h : H p = none) : Same H (upd H p o) := fun b u e => by
  rw [upd_ne (ne_of_none e h)]
  exact e
theorem Same.none {H H' : Hp} {p : Addr} (s : Same H H') (h : H' p = none) : H p = none := by
  cases e : H p with
  | none => rfl
  | some o => rw [s p o e] at h; cases h
theorem lits_len : ∀ {n : Nat} {es : List Expr} {ts : List Tr}, litEs (litE n) es = some ts → ts.length = es.length
  | n, [], ts, h => by
    rw [litEs] at h
    cases h
    rfl
  | n, e :: es, ts, h => by
    rw [litEs] at h
    split at h
    · rename_i t us h1 h2
      cases h
      rw [List.length_cons, List.length_cons, lits_len h2]
    · cases h
theorem pe_litB : ∀ n, ∀ e t, litE n e = some t → PE X e (tLit t) ∧ ∀ es, starEach (e :: es) X.env = (false, eval e X.env) :: starEach es X.env := by
  intro n
  induction n with
  | zero =>
    intro e t h
    rw [litE] at h
    cases h
  | succ n ih =>
    have many : ∀ es ts, litEs (litE n) es = some ts → PA X es (tLits ts) := by
      intro es
      induction es with
      | nil =>
        intro ts h
        rw [litEs] at h
        cases h
        exact PA.imp pa_nil fun σ H Q q => q [] H (Same.refl H) .nil
      | cons e es ih2 =>
        intro ts h
        rw [litEs] at h
        split at h
        · rename_i t us h1 h2
          cases h
          obtain ⟨a1, a2⟩ := ih e t h1
          refine PA.imp (pa_cons a1 (ih2 us h2) (a2 es)) fun σ H Q q => ?_
          intro v H1 s1 hv ws H2 s2 hw
          exact q (v :: ws) H2 (s1.trans s2) (.cons (hv.mono (Kd.of_same s2)) hw)
        · cases h
    intro e t h
    unfold litE at h
    split at h
    · cases h
      exact ⟨PE.imp pe_str fun σ H Q q => q _ H (Same.refl H) at_str, fun es => rfl⟩
    · cases h
      exact ⟨PE.imp pe_int fun σ H Q q => q _ H (Same.refl H) (by unfold TrAt; rfl), fun es => rfl⟩
    · cases h
      exact ⟨PE.imp (pe_un un_neg pe_int) fun σ H Q q => ⟨_, rfl, q _ H (Same.refl H) (by unfold TrAt; rfl)⟩, fun es => rfl⟩
    · rename_i es k pos
      split at h
      · rename_i hl
        obtain ⟨ts, h1, h2⟩ := Option.map_eq_some_iff.mp h
        cases h2
        refine ⟨PE.imp (pe_tup (many es ts h1)) fun σ H Q q => ?_, fun es => rfl⟩
        intro vs H1 s1 hv
        have l1 := hv.len
        have l2 := lits_len h1
        refine ⟨by have : (100 : Nat) ≤ sizeLine := by decide +kernel
                   omega, fun p np => ?_⟩
        have s2 := same_up (o := .tup vs) np
        exact q (.ref p) _ (s1.trans s2) (at_tup upd_same (hv.mono (Kd.of_same s2)))
      · cases h
    · cases h
theorem pa_lits (n : Nat) : ∀ {es : List Expr} {ts : List Tr}, litEs (litE n) es = some ts → PA X es (tLits ts)
  | [], ts, h => by
    rw [litEs] at h
    cases h
    exact PA.imp pa_nil fun σ H Q q => q [] H (Same.refl H) .nil
  | e :: es, ts, h => by
    rw [litEs] at h
    split at h
    · rename_i t us h1 h2
      cases h
      obtain ⟨a1, a2⟩ := pe_litB (X := X) n e t h1
      refine PA.imp (pa_cons a1 (pa_lits n h2) (a2 es)) fun σ H Q q => ?_
      intro v H1 s1 hv ws H2 s2 hw
      exact q (v :: ws) H2 (s1.trans s2) (.cons (hv.mono (Kd.of_same s2)) hw)
    · cases h
theorem pe_lit (n : Nat) {e : Expr} {t : Tr} (h : litE n e = some t) : PE X e (tLit t) := (pe_litB n e t h).1
theorem pe_litL (n : Nat) {e : Expr} {ts : List Tr} (h : litL n e = some ts) : PE X e (tLitL ts) := by
  unfold litL at h
  split at h
  · rename_i es pos
    split at h
    · rename_i hl
      refine PE.imp (pe_lst (pa_lits n h)) fun σ H Q q => ?_
      intro vs H1 s1 hv
      have l1 := hv.len
      have l2 := lits_len h
      refine ⟨by have : (100 : Nat) ≤ sizeLine := by decide +kernel
                 omega, fun p np => ?_⟩
      have s2 := same_up (o := .lst vs) np
      exact q p vs _ (s1.trans s2) (s1.none np) upd_same (hv.mono (Kd.of_same s2))
    · cases h
  · cases h
end
end L2
set_option Elab.async false
set_option linter.all false
set_option maxRecDepth 100000
set_option maxHeartbeats 4000000
namespace K77
open PySem L2 Mth Tre Wd Su Tw
theorem be_any {kk : Str} : (kk = "not" ∨ kk = "flag" ∨ kk = "most" ∨ kk = "like" → ([s_ "both", s_ "either"].any fun u => eqT u (.str kk)) = false) ∧ (kk = "both" ∨ kk = "either" → ([s_ "both", s_ "either"].any fun u => eqT u (.str kk)) = true) := by
  constructor
  · rintro (rfl | rfl | rfl | rfl) <;> decide +kernel
  · rintro (rfl | rfl) <;> decide +kernel
theorem be_dep : ∀ u ∈ [s_ "both", s_ "either"], u.depth ≤ 40 := fun u m => by
  simp only [List.mem_cons, List.not_mem_nil, or_false] at m
  rcases m with rfl | rfl <;> simp [Tr.depth]
theorem wk_ty {t : Tr} (h : Wk t) : Ty .ws t ∧ t.depth ≤ 14 := by
  obtain ⟨n, c, hn, hw⟩ := h
  have := wx_ty hw.wx
  exact ⟨this.1, by omega⟩
theorem all_wk {n : Nat} {t : Tr} {c : List Nat} (h : Wy n t c) (hn : n ≤ 2) : ∀ u ∈ allN n t, Wk u := fun u m => by
  obtain ⟨m', d, h1, h2, _⟩ := all_wy h u m
  exact ⟨m', d, by omega, h2⟩
section
variable {P : Program} {w : World} {K : PySem.W.Frag} {mg : Str → Option Value} {base : Heap}
def spLp (n : Nat) : Sp := fun vs H Q _ => ∃ (v : V) (t : Tr) (c : List Nat) (m : Nat), vs = [v] ∧ TrAt H v t ∧ Wy m t c ∧ m < n ∧ n ≤ 3 ∧ ∀ r H' ws, H r = none → Same H H' → H' r = some (.lst ws) → TrsAt H' ws (Fs.firsts [] (allN m t)) → Q (.ref r) H'
theorem scLp : FnScope ["_law_wish_here", "_law_found", "_law_inner", "_law_one", "_law_part"] ["_law_wish_here"] (defScope sParts) := ⟨rfl, rfl, rfl, by decide +kernel, rfl, by decide +kernel, by decide +kernel⟩
open Classical in
theorem ok_lp {f : Addr} {fd : FuncData} (F : Fun K "_law_parts" "_law_parts" sParts f fd) (bF : Binds K fd ["_law_wish_here"] []) (mF : mg "_law_parts" = some (.ref f)) :
    ∀ n, FnOk P w K mg base CX0 (n + 1) f fd ["_law_wish_here"] (spLp n) := by
  intro n
  induction n with
  | zero => exact ⟨fun vs H Q E ⟨_, _, _, _, _, _, _, h, _⟩ => absurd h (by omega), fun A outer s H args us vs Q E _ _ _ _ ⟨_, _, _, _, _, _, _, h, _⟩ => absurd h (by omega)⟩
  | succ n ih =>
    refine F.ok scLp (fun vs H Q E h => ?_) (fun cdv A outer s H vs Q E hr h => ?_)
    · obtain ⟨v, t, c, m, rfl, _⟩ := h
      rfl
    obtain ⟨v, t, c, m, rfl, hv, hw, hm, hn, k⟩ := h
    have hun := hr.units
    have hu50 := Nat.lt_of_le_of_lt (Nat.add_le_add_left (show 50 ≤ 64 by decide) _) hun
    refine ⟨_, pss_cons (ps_set (i := 1) scLp.nd rfl (Or.inl rfl) (pe_lst pa_nil))
      (pss_cons (ps_set (i := 2) scLp.nd rfl (Or.inl rfl) (pe_tup pa_nil))
      (pss_cons (ps_if (pt_cmpR op_eq (pe_ix ix_tup (pv 0) pe_int fun _ _ => rfl) pe_str (nomark _)) (pss_one (ps_set (i := 2) scLp.nd rfl (Or.inl rfl) (pe_tup (pa_cons (pe_ix ix_tup (pv 0) pe_int fun _ _ => rfl) pa_nil)))) pss_nil)
      (pss_cons (ps_if (pt_cmpR (op_inE hu50) (pe_ix ix_tup (pv 0) pe_int fun _ _ => rfl) (pe_lit 9 rfl) (by with_unfolding_all rfl)) (pss_one (ps_set (i := 2) scLp.nd rfl (Or.inl rfl) (pe_ix ix_tup (pv 0) pe_int fun _ _ => rfl))) pss_nil)
      (pss_cons (ps_for PassesOwn.never rfl (pi_tup (pv 2)) (pg_name (i := 3) scLp.nd rfl (Or.inl rfl))
        (pss_one (ps_for PassesOwn.never rfl (pi_list (pe_call ih hr rfl mF F.kp bF .nil pass0 (pa_cons (pv 3) pa_nil))) (pg_name (i := 4) scLp.nd rfl (Or.inl rfl))
          (pss_one (ps_if (pt_cmpR (op_outE hu50) (pv 4) (pv 1) (by with_unfolding_all rfl)) (pss_one (ps_expr (pe_bm PySem.F.plainAttrs_list PySem.F.slot_list_append PySem.F.type_list_append mt_append (pv 1) (pa_cons (pv 4) pa_nil)))) pss_nil)))))
      (pss_one (ps_ret (pe_ifExp (pt_cmpR (op_inE hu50) (pv 0) (pv 1) (by with_unfolding_all rfl)) (pv 1) (pe_op op_cat (pv 1) (pe_lst (pa_cons (pv 0) pa_nil)))))))))), ?_⟩
    have hL : (20000 : Nat) ≤ sizeLine := by decide +kernel
    obtain ⟨hkn, hkids⟩ := wy_kids hw
    have hkw : ∀ u ∈ kidsT t, ∃ c, Wy (m - 1) u c := fun u mu => by
      obtain ⟨m', d', e', h', _⟩ := hkids u mu
      subst e'
      exact ⟨d', h'⟩
    have wk : ∀ i, ∀ u ∈ Fs.firsts [] (((kidsT t).take i).flatMap (allN (m - 1))), Wk u := fun i u mu => by
      rcases Fs.mem_fst.mp mu with h | h
      · cases h
      · obtain ⟨y, my, mu⟩ := List.mem_flatMap.mp h
        obtain ⟨d, hy⟩ := hkw y (List.mem_of_mem_take my)
        exact all_wk hy (by omega) u mu
    have hlen0 : (allN m t).length ≤ 64 := Nat.le_trans (all_len hw) (Nat.le_trans (Nat.pow_le_pow_right (by decide) (show m ≤ 3 by omega)) (by decide))
    have eall := all_eq hw
    have hlenA : ∀ i, (((kidsT t).take i).flatMap (allN (m - 1))).length ≤ 64 := fun i => by
      have h1 := flat_take_le (kidsT t) i (m - 1)
      rw [eall, List.length_append] at hlen0
      omega
    refine ⟨by show 0 ≤ sizeLine; decide, fun D nD => ?_⟩
    have s1 := same_upd (o := .lst []) nD
    have hD1 := upd_same (H := H) (a := D) (o := .lst [])
    generalize upd H D (.lst []) = H1 at s1 hD1 ⊢
    refine ⟨by show 0 ≤ sizeLine; decide, fun q0 nq0 => ?_⟩
    have s2 := same_upd (o := .tup []) nq0
    have hq0 := upd_same (H := H1) (a := q0) (o := .tup [])
    have sA := s1.trans s2
    have hD2 := s2 _ _ hD1
    generalize upd H1 q0 (.tup []) = H2 at s2 hq0 sA hD2 ⊢
    have hv2 := hv.mono (Kd.of_same sA)
    refine gname_of ?_
    try dsimp only
    refine seq_any (fun σ' H' => Same H H' ∧ H' D = some (.lst []) ∧ ∃ q ws, σ' = [some v, some (.ref D), some (.ref q), none, none] ∧ H' q = some (.tup ws) ∧ ((∃ u, t = .tup [s_ "not", u] ∧ TrsAt H' ws [u]) ∨ ((∀ u, t ≠ .tup [s_ "not", u]) ∧ ws = []))) ?_ fun nx hnx => ?_
    rotate_left
    · generalize kidsT t = l at hkn
      cases hkn with
      | at_ n' kk r hk =>
        obtain ⟨r', vs, rfl, h1, h2⟩ := first_at hv2
        have a1 : kk ≠ "not" := by rcases hk with rfl | rfl | rfl <;> decide +kernel
        refine ⟨_, rfl, r', _, 0, .str kk, rfl, rfl, SqT.of h1, atI_nat (j := 0) rfl, rfl, _, rfl, ?_⟩
        rw [decide_eq_false (fun e => a1 (V.str.inj e))]
        exact iteF (hnx _ _ ⟨sA, hD2, q0, [], rfl, hq0, .inr ⟨fun u => s_ne a1, rfl⟩⟩)
      | no n' u =>
        obtain ⟨r, y, rfl, h1, h2⟩ := at2 hv2
        refine ⟨_, rfl, r, _, 0, .str "not", rfl, rfl, SqT.of h1, rfl, rfl, _, rfl, ?_⟩
        rw [decide_eq_true rfl]
        refine iteT ⟨_, rfl, r, _, 1, y, rfl, rfl, SqT.of h1, rfl, by show 1 ≤ sizeLine; decide, fun q nq => ?_⟩
        have sq := same_upd (o := .tup [y]) nq
        exact hnx _ _ ⟨sA.trans sq, sq _ _ hD2, q, [y], rfl, upd_same, .inl ⟨u, rfl, .cons (h2.mono (Kd.of_same sq)) .nil⟩⟩
      | be n' kk l hk h3 =>
        obtain ⟨r, y, rfl, h1, h2⟩ := at2 hv2
        have a1 : kk ≠ "not" := by rcases hk with rfl | rfl <;> decide +kernel
        refine ⟨_, rfl, r, _, 0, .str kk, rfl, rfl, SqT.of h1, rfl, rfl, _, rfl, ?_⟩
        rw [decide_eq_false (fun e => a1 (V.str.inj e))]
        exact iteF (hnx _ _ ⟨sA, hD2, q0, [], rfl, hq0, .inr ⟨fun u => s_ne a1, rfl⟩⟩)
    rintro σ3 H3 ⟨s3, hD3, q3, ws3, rfl, hq3, hor⟩
    have hv3 := hv.mono (Kd.of_same s3)
    refine seq_any (fun σ' H' => Same H H' ∧ H' D = some (.lst []) ∧ ∃ q ws, σ' = [some v, some (.ref D), some (.ref q), none, none] ∧ H' q = some (.tup ws) ∧ TrsAt H' ws (kidsT t)) ?_ fun nx hnx => ?_
    rotate_left
    · generalize kidsT t = l at hkn hnx
      cases hkn with
      | at_ n' kk r hk =>
        obtain ⟨r', vs, rfl, h1, h2⟩ := first_at hv3
        have a1 : kk ≠ "not" := by rcases hk with rfl | rfl | rfl <;> decide +kernel
        have hws : ws3 = [] := by
          rcases hor with ⟨u, e, _⟩ | ⟨_, e⟩
          · exact absurd e (s_ne a1)
          · exact e
        refine ⟨_, rfl, r', _, 0, .str kk, rfl, rfl, SqT.of h1, atI_nat (j := 0) rfl, fun vT H4 s4 hT4 => ?_⟩
        obtain ⟨p, xs, rfl, hp, hx⟩ := at_t hT4
        refine ⟨p, xs, _, .str kk, rfl, .inr hp, hx, at_str, be_dep, trivial, _, rfl, ?_⟩
        rw [be_any.1 (.inr hk)]
        subst hws
        exact iteF (hnx _ _ ⟨s3.trans s4, s4 _ _ hD3, q3, [], rfl, s4 _ _ hq3, .nil⟩)
      | no n' u =>
        obtain ⟨r, y, rfl, h1, h2⟩ := at2 hv3
        refine ⟨_, rfl, r, _, 0, .str "not", rfl, rfl, SqT.of h1, rfl, fun vT H4 s4 hT4 => ?_⟩
        obtain ⟨p, xs, rfl, hp, hx⟩ := at_t hT4
        refine ⟨p, xs, _, .str "not", rfl, .inr hp, hx, at_str, be_dep, trivial, _, rfl, ?_⟩
        rw [be_any.1 (.inl rfl)]
        refine iteF (hnx _ _ ⟨s3.trans s4, s4 _ _ hD3, q3, ws3, rfl, s4 _ _ hq3, ?_⟩)
        rcases hor with ⟨u', e, h⟩ | ⟨e, _⟩
        · simp only [Tr.tup.injEq, List.cons.injEq, and_true, true_and] at e
          rw [e]
          exact h.mono (Kd.of_same s4)
        · exact absurd rfl (e u)
      | be n' kk l hk h3 =>
        obtain ⟨r, y, rfl, h1, h2⟩ := at2 hv3
        obtain ⟨q, vs, rfl, h4, h5⟩ := at_t h2
        refine ⟨_, rfl, r, _, 0, .str kk, rfl, rfl, SqT.of h1, rfl, fun vT H4 s4 hT4 => ?_⟩
        obtain ⟨p, xs, rfl, hp, hx⟩ := at_t hT4
        refine ⟨p, xs, _, .str kk, rfl, .inr hp, hx, at_str, be_dep, trivial, _, rfl, ?_⟩
        rw [be_any.2 hk]
        exact iteT ⟨_, rfl, r, _, 1, .ref q, rfl, rfl, SqT.of (s4 _ _ h1), rfl, hnx _ _ ⟨s3.trans s4, s4 _ _ hD3, q, vs, rfl, s4 _ _ h4, h5.mono (Kd.of_same s4)⟩⟩
    rintro σ4 H4 ⟨s4, hD4, q, ws, rfl, hq, hT⟩
    have wl := hT.len
    refine ⟨_, rfl, q, rfl, ⟨_, SqT.of hq⟩, ?_⟩
    refine for_tup (xs := ws) (fun i σ H' => Same H H' ∧ H' q = some (.tup ws) ∧ TrsAt H' ws (kidsT t) ∧ ∃ rs v3 v4, σ = [some v, some (.ref D), some (.ref q), v3, v4] ∧ H' D = some (.lst rs) ∧ TrsAt H' rs (Fs.firsts [] (((kidsT t).take i).flatMap (allN (m - 1)))))
      ⟨s4, hq, hT, [], none, none, rfl, hD4, .nil⟩ (fun i σ H' _ p => SqT.of p.2.1) ?_ ?_
    · rintro i x σ H5 ex ⟨s5, hq5, hT5, rs, v3, v4, rfl, hD5, hR⟩
      obtain ⟨u, eu, hu⟩ := hT5.get' ex
      have mu := List.mem_of_getElem? eu
      obtain ⟨m', d', e', h', _⟩ := hkids u mu
      subst e'
      have em : m' + 1 - 1 = m' := by omega
      refine gname_of ?_
      dsimp only
      refine ⟨_, rfl, x, u, d', m', rfl, hu, h', by omega, by omega, fun r H6 ws6 nr s6 hr6 hU => ?_⟩
      have wl6 := hU.len
      have hD6 := s6 _ _ hD5
      have nDr : D ≠ r := fun e => by rw [← e, hD5] at nr; cases nr
      have wkU : ∀ y ∈ Fs.firsts [] (allN m' u), Wk y := fun y my => by
        rcases Fs.mem_fst.mp my with h | h
        · cases h
        · exact all_wk h' (by omega) y h
      have lenU := Fs.firsts_len (allN m' u) []
      have lenu := Nat.le_trans (all_len h') (Nat.le_trans (Nat.pow_le_pow_right (by decide) (show m' ≤ 3 by omega)) (show (4 : Nat) ^ 3 ≤ 64 by decide))
      have lenF := Fs.firsts_len (((kidsT t).take i).flatMap (allN (m' + 1 - 1))) []
      have lenF2 := hlenA i
      refine ⟨r, rfl, ⟨ws6, SqL.of hr6⟩, ?_⟩
      refine for_list (xs := ws6) (fun j σ H' => Same H H' ∧ H' q = some (.tup ws) ∧ TrsAt H' ws (kidsT t) ∧ H' r = some (.lst ws6) ∧ TrsAt H' ws6 (Fs.firsts [] (allN m' u)) ∧ ∃ rs v4, σ = [some v, some (.ref D), some (.ref q), some x, v4] ∧ H' D = some (.lst rs) ∧ TrsAt H' rs (Fs.firsts (Fs.firsts [] (((kidsT t).take i).flatMap (allN (m' + 1 - 1)))) ((Fs.firsts [] (allN m' u)).take j)))
        ⟨s5.trans s6, s6 _ _ hq5, hT5.mono (Kd.of_same s6), hr6, hU, rs, v4, rfl, hD6, hR.mono (Kd.of_same s6)⟩ (fun j σ H' _ p => SqL.of p.2.2.2.1) ?_ ?_
      · rintro j y σ H7 ey ⟨s7, hq7, hT7, hr7, hU7, rs7, v47, rfl, hD7, hR7⟩
        obtain ⟨z, ez, hz⟩ := hU7.get' ey
        have mz := List.mem_of_getElem? ez
        have jl : j < (Fs.firsts [] (allN m' u)).length := (List.getElem?_eq_some_iff.mp ez).1
        have wz := wk_ty (wkU z mz)
        have wkA : ∀ y ∈ Fs.firsts (Fs.firsts [] (((kidsT t).take i).flatMap (allN (m' + 1 - 1)))) ((Fs.firsts [] (allN m' u)).take j), Wk y := fun y my => by
          rcases Fs.mem_fst.mp my with h | h
          · exact wk i y h
          · exact wkU y (List.mem_of_mem_take h)
        have rl := hR7.len
        have rl2 := Fs.firsts_len ((Fs.firsts [] (allN m' u)).take j) (Fs.firsts [] (((kidsT t).take i).flatMap (allN (m' + 1 - 1))))
        rw [List.length_take] at rl2
        rw [List.length_nil] at lenF lenU
        refine gname_of ?_
        dsimp only
        refine ⟨_, rfl, _, rfl, D, rs7, _, z, rfl, .inl hD7, hR7, hz, fun y my => by have := (wk_ty (wkA y my)).2; omega, ty_pure wz.1, _, rfl, ?_⟩
        rw [any_mem (fun y my => (wk_ty (wkA y my)).1) wz.1]
        have et : (Fs.firsts [] (allN m' u)).take (j + 1) = (Fs.firsts [] (allN m' u)).take j ++ [z] := by rw [List.take_add_one, ez]; rfl
        by_cases mz2 : z ∈ Fs.firsts (Fs.firsts [] (((kidsT t).take i).flatMap (allN (m' + 1 - 1)))) ((Fs.firsts [] (allN m' u)).take j)
        · rw [decide_eq_true mz2]
          refine iteF ?_
          refine ⟨s7, hq7, hT7, hr7, hU7, rs7, _, rfl, hD7, ?_⟩
          rw [et, Fs.firsts_app, Fs.firsts_one, Fs.add_in mz2]
          exact hR7
        · rw [decide_eq_false mz2]
          refine iteT ?_
          refine ⟨_, rfl, .inl ⟨rfl, _, SqL.of hD7⟩, _, rfl, D, rs7, y, rfl, rfl, hD7, by omega, ?_⟩
          have kd := Kd.upd (ys := rs7 ++ [y]) hD7
          refine ⟨same_wr nD s7, kd.tup _ _ hq7, hT7.mono kd, (upd_ne (Ne.symm nDr)).trans hr7, hU7.mono kd, _, _, rfl, upd_same, ?_⟩
          rw [et, Fs.firsts_app, Fs.firsts_one, Fs.add_out mz2]
          exact TrsAt.app (.cons (hz.mono kd) .nil) (hR7.mono kd)
      · rintro σ H7 ⟨s7, hq7, hT7, hr7, hU7, rs7, v47, rfl, hD7, hR7⟩
        rw [wl6, List.take_length, Fs.firsts_idem] at hR7
        refine ⟨s7, hq7, hT7, rs7, _, _, rfl, hD7, ?_⟩
        rw [flat_take eu, Fs.firsts_app, em]
        rw [em] at hR7
        exact hR7
    · rintro σ H5 ⟨s5, hq5, hT5, rs, v3, v4, rfl, hD5, hR⟩
      have hlenF := hlenA ws.length
      rw [wl, List.take_length] at hR hlenF
      have wkF : ∀ u ∈ Fs.firsts [] ((kidsT t).flatMap (allN (m - 1))), Wk u := fun u mu => by
        have := wk (kidsT t).length u
        rw [List.take_length] at this
        exact this mu
      have lenF := Fs.firsts_len ((kidsT t).flatMap (allN (m - 1))) []
      rw [List.length_nil] at lenF
      have rl := hR.len
      have hout : ¬ t ∈ Fs.firsts [] ((kidsT t).flatMap (allN (m - 1))) := fun z => (Fs.mem_fst.mp z).elim (fun h => by cases h) (self_out hw)
      have wt := wx_ty hw.wx
      have hv5 := hv.mono (Kd.of_same s5)
      refine ⟨_, rfl, _, rfl, D, rs, _, t, rfl, .inl hD5, hR, hv5, fun y my => by have := (wk_ty (wkF y my)).2; omega, ty_pure wt.1, _, rfl, ?_⟩
      rw [any_mem (fun y my => (wk_ty (wkF y my)).1) wt.1, decide_eq_false hout]
      refine iteF ?_
      refine ⟨_, rfl, _, rfl, by show 1 ≤ sizeLine; decide, fun L nL => ?_⟩
      have sL := same_upd (o := .lst [v]) nL
      refine ⟨D, L, rs, _, rfl, rfl, sL _ _ hD5, upd_same, by rw [List.length_singleton]; omega, fun p np => ?_⟩
      have sp := same_upd (o := .lst (rs ++ [v])) np
      refine k p _ _ ?_ (s5.trans (sL.trans sp)) upd_same ?_
      · have n1 : (upd H5 L (.lst [v])) p = none := np
        cases e : H p with
        | none => rfl
        | some o => rw [sL _ _ (s5 _ _ e)] at n1; cases n1
      · rw [eall, Fs.firsts_app, Fs.firsts_one, Fs.add_out hout]
        exact TrsAt.app (.cons (hv5.mono (Kd.of_same (sL.trans sp))) .nil) (hR.mono (Kd.of_same (sL.trans sp)))
end
end K77
set_option Elab.async false
set_option linter.all false
namespace L2
open PySem
section
variable {X : Cx} {es rest : List Expr} {t tr : TA}
theorem pa_cc {a b : Str} {j p j' p' k q k2 q2} (h : PA X es t) (hr : PA X rest tr) : PA X (.Tuple [.Constant (.str a) j p, .Constant (.str b) j' p', .Tuple es k q] k2 q2 :: rest) (tCons (tTup (tCons (tC (.str a)) (tCons (tC (.str b)) (tCons (tTup t) tNil)))) tr) := by
  refine pa_cons (pe_tup ?_) hr rfl
  refine pa_cons pe_str ?_ rfl
  refine pa_cons pe_str ?_ rfl
  exact pa_cons (pe_tup h) pa_nil rfl
theorem pe_cc {a b : Str} {j p j' p' k q k2 q2} (h : PA X es t) : PE X (.Tuple [.Constant (.str a) j p, .Constant (.str b) j' p', .Tuple es k q] k2 q2) (tTup (tCons (tC (.str a)) (tCons (tC (.str b)) (tCons (tTup t) tNil)))) := by
  refine pe_tup ?_
  refine pa_cons pe_str ?_ rfl
  refine pa_cons pe_str ?_ rfl
  exact pa_cons (pe_tup h) pa_nil rfl
theorem ps_rcc {a b : Str} {j p j' p' k q k2 q2 q3} (h : PA X es t) : PSs X [.Return (some (.Tuple [.Constant (.str a) j p, .Constant (.str b) j' p', .Tuple es k q] k2 q2)) q3] (tRet (tTup (tCons (tC (.str a)) (tCons (tC (.str b)) (tCons (tTup t) tNil))))) := pss_one (ps_ret (pe_cc h))
end
end L2
set_option Elab.async false
set_option linter.all false
set_option maxRecDepth 100000
set_option maxHeartbeats 4000000
namespace K77
open PySem L2 Mth Tre Wd Su Tw
theorem nm_a : Nm (Str.ofString "a") := ⟨by decide +kernel, by decide +kernel, by show ∀ c ∈ (Str.ofString "a").cps.toList, 97 ≤ c ∧ c ≤ 122; decide +kernel⟩
theorem nm_b : Nm (Str.ofString "b") := ⟨by decide +kernel, by decide +kernel, by show ∀ c ∈ (Str.ofString "b").cps.toList, 97 ≤ c ∧ c ≤ 122; decide +kernel⟩
theorem nm_ab : Nm (Str.ofString "ab") := ⟨by decide +kernel, by decide +kernel, by show ∀ c ∈ (Str.ofString "ab").cps.toList, 97 ≤ c ∧ c ≤ 122; decide +kernel⟩
theorem nm_f : Nm (Str.ofString "f") := ⟨by decide +kernel, by decide +kernel, by show ∀ c ∈ (Str.ofString "f").cps.toList, 97 ≤ c ∧ c ≤ 122; decide +kernel⟩
theorem nm_p : Nm (Str.ofString "p") := ⟨by decide +kernel, by decide +kernel, by show ∀ c ∈ (Str.ofString "p").cps.toList, 97 ≤ c ∧ c ≤ 122; decide +kernel⟩
theorem nm_q : Nm (Str.ofString "q") := ⟨by decide +kernel, by decide +kernel, by show ∀ c ∈ (Str.ofString "q").cps.toList, 97 ≤ c ∧ c ≤ 122; decide +kernel⟩
structure Tz (d : Nat) (t : Tr) : Prop where
  ty : Ty .tm t
  lt : Lt t
  dep : t.depth ≤ 2 * d + 1
  len : (tmC t).length ≤ 13 * 4 ^ d
theorem Tz.nm {x : Str} (h : Nm x) (d : Nat) : Tz d (.tup [s_ "name", .str x]) := ⟨.nm x, .nm x h, by simp only [Tr.depth, Trs.depth]; omega, name_len h.le⟩
theorem Tz.ap {f : Str} {ts : List Tr} {d : Nat} (h : Nm f) (h0 : 0 < ts.length) (h3 : ts.length ≤ 3) (ht : ∀ t ∈ ts, Tz d t) : Tz (d + 1) (.tup [s_ "call", .str f, .tup ts]) := by
  refine ⟨.ap f ts h3 fun t m => (ht t m).ty, .ap f ts h h0 fun t m => (ht t m).lt, ?_, call_len h.le h3 (by omega) fun t m => by simpa using (ht t m).len⟩
  have := depths_le fun t m => (ht t m).dep
  simp only [Tr.depth, Trs.depth]
  omega
theorem Tz.mono {d e : Nat} {t : Tr} (h : Tz d t) (l : d ≤ e) : Tz e t := ⟨h.ty, h.lt, by have := h.dep; omega, Nat.le_trans h.len (Nat.mul_le_mul_left _ (Nat.pow_le_pow_right (by decide) l))⟩
theorem Tz.tb {t : Tr} (h : Tz 2 t) : Tb t := ⟨h.ty, by have := h.dep; omega, Nat.le_trans h.len (by decide)⟩
theorem pick {H : Hp} {vs : List V} {ts : List Tr} {r : Int} (h : TrsAt H vs ts) (h0 : 0 ≤ r) (h1 : r < (ts.length : Int)) : ∃ v t, atI vs r = some v ∧ t ∈ ts ∧ TrAt H v t := by
  obtain ⟨j, rfl⟩ : ∃ j : Nat, r = (j : Int) := ⟨r.toNat, by omega⟩
  have hj : j < ts.length := by omega
  obtain ⟨v, e1, e2⟩ := h.get (i := j) (t := ts[j]) (List.getElem?_eq_getElem hj)
  exact ⟨v, _, atI_nat e1, List.getElem_mem hj, e2⟩
def asgV : Stmt → Expr
  | .Assign _ v _ => v
  | _ => .Constant .none 0 ⟨0, 0, 0, 0⟩
def asgW (s : Stmt) (L : Expr) : Stmt := match s with
  | .Assign ts _ p => .Assign ts L p
  | s => s
theorem swaps_lit {n : Nat} {L : Expr} {ts : List Tr} (h : litL n L = some ts) {tg : Option Expr} {line : Nat} {env : Env} : swapsWith L tg line env = pure false := by
  unfold litL at h
  split at h
  · rfl
  · cases h
section
variable {P : Program} {w : World} {K : PySem.W.Frag} {mg : Str → Option Value} {base : Heap}
def spTerm (K : PySem.W.Frag) : Sp := fun vs H Q _ => ∃ (a : Addr) (ns : List Int) (kk : Int), vs = [.ref a, .int kk] ∧ SqL K H a (ns.map V.int) ∧ ns.length ≤ 63 ∧ 0 ≤ kk ∧ kk ≤ 90000 ∧ ∀ v t H', Same H H' → TrAt H' v t → Tz 2 t → Q v H'
theorem scTe : FnScope ["_law_script", "_law_k", "_law_names", "_law_one", "_law_way"] ["_law_script", "_law_k"] (defScope sTerm) := ⟨rfl, rfl, rfl, by decide +kernel, rfl, by decide +kernel, by decide +kernel⟩
theorem ok_term {f fD : Addr} {fd dD : FuncData} (F : Fun K "_law_term" "_law_term" sTerm f fd)
    (gD : FnOk P w K mg base CX0 1 fD dD ["_law_script", "_law_k", "_law_many"] (spDraw K)) (kD : PySem.W.keepIn K (.ref fD) = true) (bD : Binds K dD ["_law_script", "_law_k", "_law_many"] []) (mD : mg "_law_draw" = some (.ref fD)) : FnOk P w K mg base CX0 2 f fd ["_law_script", "_law_k"] (spTerm K) := by
  refine F.ok scTe (fun vs H Q E h => ?_) (fun cdv A outer s H vs Q E hr h => ?_)
  · obtain ⟨a, ns, kk, rfl, _⟩ := h
    rfl
  obtain ⟨a, ns, kk, rfl, hS, h63, k0, k9, k⟩ := h
  have hr1 : Room 1 _ := hr.mono (by decide)
  have eB : defBody sTerm = asgW ((defBody sTerm).headD (.Pass ⟨0, 0, 0, 0⟩)) (asgV ((defBody sTerm).headD (.Pass ⟨0, 0, 0, 0⟩))) :: (defBody sTerm).tail := rfl
  have eL : litL 9 (asgV ((defBody sTerm).headD (.Pass ⟨0, 0, 0, 0⟩))) = some [Tr.tup [.str (Str.ofString "name"), .str (Str.ofString "a")], .tup [.str (Str.ofString "name"), .str (Str.ofString "b")], .tup [.str (Str.ofString "name"), .str (Str.ofString "ab")], .tup [.str (Str.ofString "name"), .str (Str.ofString "f")]] := rfl
  rw [eB]
  clear eB
  generalize asgV ((defBody sTerm).headD (.Pass ⟨0, 0, 0, 0⟩)) = LE at eL ⊢
  refine ⟨_, pss_cons (ps_set (i := 2) scTe.nd rfl (Or.inl rfl) (pe_litL 9 eL) (swaps_lit eL))
    (pss_cons (ps_set (i := 3) scTe.nd rfl (Or.inl rfl) (pe_ix ix_list (pv 2) (pe_call gD hr1 rfl mD kD bD .nil pass0 (pa_cons (pv 0) (pa_cons (pv 1) (pa_cons pe_int pa_nil)))) fun _ _ => rfl))
    (pss_cons (ps_set (i := 4) scTe.nd rfl (Or.inl rfl) (pe_call gD hr1 rfl mD kD bD .nil pass0 (pa_cons (pv 0) (pa_cons (pe_op op_add (pv 1) pe_int) (pa_cons pe_int pa_nil)))))
    (pss_cons (ps_if (pt_cmpR op_lt (pv 4) pe_int (nomark _)) (pss_one (ps_ret (pv 3))) pss_nil)
    (pss_cons (ps_if (pt_cmpR op_eq (pv 4) pe_int (nomark _)) (ps_rcc (pa_cons (pv 3) (pa_cons (pe_ix ix_list (pv 2) pe_int fun _ _ => rfl) pa_nil))) pss_nil)
    (pss_cons (ps_if (pt_cmpR op_eq (pv 4) pe_int (nomark _)) (ps_rcc (pa_cc (pa_cons (pv 3) pa_nil) pa_nil)) pss_nil)
    (ps_rcc (pa_cons (pv 3) pa_nil))))))), ?_⟩
  have h1 : (1 : Nat) ≤ sizeLine := by decide
  have h2 : (2 : Nat) ≤ sizeLine := by decide
  have h3 : (3 : Nat) ≤ sizeLine := by decide
  have h4 : (4 : Nat) ≤ sizeLine := by decide
  intro L ws H5 sA _ hL hT
  have hS5 := SqL.same sA hS
  have tz : ∀ t ∈ [Tr.tup [.str (Str.ofString "name"), .str (Str.ofString "a")], .tup [.str (Str.ofString "name"), .str (Str.ofString "b")], .tup [.str (Str.ofString "name"), .str (Str.ofString "ab")], .tup [.str (Str.ofString "name"), .str (Str.ofString "f")]], Tz 0 t := fun t m => by
    simp only [List.mem_cons, List.not_mem_nil, or_false] at m
    rcases m with rfl | rfl | rfl | rfl
    · exact Tz.nm nm_a 0
    · exact Tz.nm nm_b 0
    · exact Tz.nm nm_ab 0
    · exact Tz.nm nm_f 0
  obtain ⟨v0, t0, e0, m0, hv0⟩ := pick hT (r := 0) (by decide) (by decide)
  refine ⟨_, rfl, _, rfl, _, rfl, a, ns, kk, 4, rfl, hS5, h63, k0, by omega, by decide, fun r r0 r4 => ?_⟩
  obtain ⟨v, t, ev, mt, hv⟩ := pick hT r0 r4
  have zt := tz t mt
  refine ⟨L, _, r, v, rfl, rfl, SqL.of hL, ev, ?_⟩
  refine ⟨_, rfl, _, rfl, _, _, rfl, rfl, a, ns, kk + 1, 6, rfl, hS5, h63, by omega, by omega, by decide, fun y _ _ => ?_⟩
  refine ⟨_, rfl, _, _, rfl, rfl, _, rfl, ?_⟩
  refine ite2 (fun _ => ⟨_, rfl, k v t H5 sA hv (zt.mono (by decide))⟩) (fun _ => ?_)
  refine ⟨_, rfl, rfl, _, rfl, ?_⟩
  refine ite2 (fun _ => ?_) (fun _ => ?_)
  · refine ⟨_, rfl, _, rfl, L, _, 0, v0, rfl, rfl, SqL.of hL, e0, h2, fun q nq => ⟨h3, fun q2 nq2 => ?_⟩⟩
    have sq := same_upd (o := .tup [v, v0]) nq
    have sq2 := same_upd (o := .tup [.str (Str.ofString "call"), .str (Str.ofString "a"), .ref q]) nq2
    refine k (.ref q2) (.tup [s_ "call", s_ "a", .tup [t, t0]]) _ (sA.trans (sq.trans sq2)) (at_tup upd_same (.cons at_str (.cons at_str (.cons (at_tup (sq2 _ _ upd_same) (.cons (hv.mono (Kd.of_same (sq.trans sq2))) (.cons (hv0.mono (Kd.of_same (sq.trans sq2))) .nil))) .nil)))) (Tz.mono (Tz.ap (d := 0) nm_a (by simp) (by simp) fun u mu => ?_) (by decide))
    simp only [List.mem_cons, List.not_mem_nil, or_false] at mu
    rcases mu with rfl | rfl
    · exact zt
    · exact tz _ m0
  have one : ∀ {q : Addr} {H6 : Hp}, H6 q = some (.tup [v]) → Same H5 H6 → TrAt H6 (.ref q) (.tup [t]) := fun hq s6 => at_tup hq (.cons (hv.mono (Kd.of_same s6)) .nil)
  have z1 : Tz 1 (.tup [s_ "call", s_ "f", .tup [t]]) := Tz.ap (d := 0) nm_f (by simp) (by simp) fun u mu => by rw [List.mem_singleton.mp mu]; exact zt
  refine ⟨_, rfl, rfl, _, rfl, ?_⟩
  refine ite2 (fun _ => ?_) (fun _ => ?_)
  · refine ⟨_, rfl, h1, fun q nq => ⟨h3, fun q2 nq2 => ⟨h1, fun q3 nq3 => ⟨h3, fun q4 nq4 => ?_⟩⟩⟩⟩
    have sq := same_upd (o := .tup [v]) nq
    have sq2 := same_upd (o := .tup [.str (Str.ofString "call"), .str (Str.ofString "f"), .ref q]) nq2
    have sq3 := same_upd (o := .tup [.ref q2]) nq3
    have sq4 := same_upd (o := .tup [.str (Str.ofString "call"), .str (Str.ofString "f"), .ref q3]) nq4
    have hq : TrAt _ (.ref q2) (.tup [s_ "call", s_ "f", .tup [t]]) := at_tup (H := upd (upd H5 q (.tup [v])) q2 (.tup [.str (Str.ofString "call"), .str (Str.ofString "f"), .ref q])) upd_same (.cons at_str (.cons at_str (.cons (one (sq2 _ _ upd_same) (sq.trans sq2)) .nil)))
    refine k (.ref q4) (.tup [s_ "call", s_ "f", .tup [.tup [s_ "call", s_ "f", .tup [t]]]]) _ (sA.trans (sq.trans (sq2.trans (sq3.trans sq4)))) (at_tup upd_same (.cons at_str (.cons at_str (.cons (at_tup (sq4 _ _ upd_same) (.cons (hq.mono (Kd.of_same (sq3.trans sq4))) .nil)) .nil)))) (Tz.ap (d := 1) nm_f (by simp) (by simp) fun u mu => by rw [List.mem_singleton.mp mu]; exact z1)
  · refine ⟨_, rfl, h1, fun q nq => ⟨h3, fun q2 nq2 => ?_⟩⟩
    have sq := same_upd (o := .tup [v]) nq
    have sq2 := same_upd (o := .tup [.str (Str.ofString "call"), .str (Str.ofString "f"), .ref q]) nq2
    exact k (.ref q2) (.tup [s_ "call", s_ "f", .tup [t]]) _ (sA.trans (sq.trans sq2)) (at_tup upd_same (.cons at_str (.cons at_str (.cons (one (sq2 _ _ upd_same) (sq.trans sq2)) .nil)))) (z1.mono (by decide))
end
end K77
set_option Elab.async false
set_option linter.all false
set_option maxRecDepth 100000
set_option maxHeartbeats 4000000
namespace K77
open PySem L2 Mth Tre Wd Su Tw
section
variable {P : Program} {w : World} {K : PySem.W.Frag} {mg : Str → Option Value} {base : Heap}
theorem gf_i {a b : Int} (h : 0 < b) (h1 : a.natAbs ≤ 100000) (h2 : b.natAbs ≤ 100000) : Gf 200 (a, b) := by
  have : (100000 : Nat) < 2 ^ 200 := by decide +kernel
  exact ⟨h, Nat.lt_of_le_of_lt h1 this, Nat.lt_of_le_of_lt h2 this⟩
def spShr (K : PySem.W.Frag) : Sp := fun vs H Q _ => ∃ (a : Addr) (ns : List Int) (kk : Int), vs = [.ref a, .int kk] ∧ SqL K H a (ns.map V.int) ∧ ns.length ≤ 63 ∧ 0 ≤ kk ∧ kk ≤ 90000 ∧ ∀ v fr H', Same H H' → TrAt H' v (frT fr) → Gf 200 fr → Q v H'
theorem scSh : FnScope ["_law_script", "_law_k", "_law_some"] ["_law_script", "_law_k"] (defScope sShare) := ⟨rfl, rfl, rfl, by decide +kernel, rfl, by decide +kernel, by decide +kernel⟩
theorem ok_shr {f fD : Addr} {fd dD : FuncData} (F : Fun K "_law_share" "_law_share" sShare f fd)
    (gD : FnOk P w K mg base CX0 1 fD dD ["_law_script", "_law_k", "_law_many"] (spDraw K)) (kD : PySem.W.keepIn K (.ref fD) = true) (bD : Binds K dD ["_law_script", "_law_k", "_law_many"] []) (mD : mg "_law_draw" = some (.ref fD)) : FnOk P w K mg base CX0 2 f fd ["_law_script", "_law_k"] (spShr K) := by
  refine F.ok scSh (fun vs H Q E h => ?_) (fun cdv A outer s H vs Q E hr h => ?_)
  · obtain ⟨a, ns, kk, rfl, _⟩ := h
    rfl
  obtain ⟨a, ns, kk, rfl, hS, h63, k0, k9, k⟩ := h
  have hr1 : Room 1 _ := hr.mono (by decide)
  refine ⟨_, pss_cons (ps_set (i := 2) scSh.nd rfl (Or.inl rfl) (pe_litL 9 rfl))
    (pss_cons (ps_if (pt_cmpR op_eq (pe_call gD hr1 rfl mD kD bD .nil pass0 (pa_cons (pv 0) (pa_cons (pe_op op_add (pv 1) pe_int) (pa_cons pe_int pa_nil)))) pe_int (nomark _)) (pss_one (ps_ret (pe_tup (pa_cons pe_int (pa_cons pe_int pa_nil))))) pss_nil)
    (pss_one (ps_ret (pe_ix ix_list (pv 2) (pe_call gD hr1 rfl mD kD bD .nil pass0 (pa_cons (pv 0) (pa_cons (pv 1) (pa_cons pe_int pa_nil)))) fun _ _ => rfl)))), ?_⟩
  have h2 : (2 : Nat) ≤ sizeLine := by decide
  have h8 : (8 : Nat) ≤ sizeLine := by decide
  intro L ws H9 sA _ hL hT
  have hS9 := SqL.same sA hS
  refine ⟨_, rfl, _, rfl, _, _, rfl, rfl, a, ns, kk + 1, 16, rfl, hS9, h63, by omega, by omega, by decide, fun y _ _ => ?_⟩
  refine ⟨rfl, _, rfl, ?_⟩
  refine ite2 (fun _ => ⟨h2, fun q nq => k (.ref q) (9999, 9998) _ (sA.trans (same_upd nq)) (at_ints upd_same) (gf_i (by decide) (by decide) (by decide))⟩) (fun _ => ?_)
  refine ⟨_, rfl, _, rfl, _, rfl, a, ns, kk, 8, rfl, hS9, h63, k0, by omega, by decide, fun r r0 r8 => ?_⟩
  obtain ⟨v, t, ev, mt, hv⟩ := pick hT r0 r8
  refine ⟨L, _, r, v, rfl, rfl, SqL.of hL, ev, ?_⟩
  simp only [List.mem_cons, List.not_mem_nil, or_false] at mt
  rcases mt with rfl | rfl | rfl | rfl | rfl | rfl | rfl | rfl
  · exact k v (1, 1) H9 sA hv (gf_i (by decide) (by decide) (by decide))
  · exact k v (-1, 1) H9 sA hv (gf_i (by decide) (by decide) (by decide))
  · exact k v (2, 1) H9 sA hv (gf_i (by decide) (by decide) (by decide))
  · exact k v (-1, 2) H9 sA hv (gf_i (by decide) (by decide) (by decide))
  · exact k v (3, 1) H9 sA hv (gf_i (by decide) (by decide) (by decide))
  · exact k v (-2, 3) H9 sA hv (gf_i (by decide) (by decide) (by decide))
  · exact k v (1, 1) H9 sA hv (gf_i (by decide) (by decide) (by decide))
  · exact k v (-1, 1) H9 sA hv (gf_i (by decide) (by decide) (by decide))
end
end K77
set_option Elab.async false
set_option linter.all false
set_option maxRecDepth 100000
set_option maxHeartbeats 1000000
namespace Dj
open PySem PySem.Spec PySem.W PyProof.Rows L2 Tre
def RawD (h : Heap) (d : Addr) (es : Array DictEntry) (ep : Nat) : Prop := ∃ o, h.get? d = some o ∧ o.ExactDict ∧ o.data = .dict es ep
theorem RawD.kp {h h' : Heap} {d : Addr} {es : Array DictEntry} {ep : Nat} (x : RawD h d es ep) (e : ∀ o, h.get? d = some o → h'.get? d = some o) : RawD h' d es ep := by
  obtain ⟨o, h1, h2⟩ := x
  exact ⟨o, e o h1, h2⟩
theorem RawD.lt {h : Heap} {d : Addr} {es : Array DictEntry} {ep : Nat} (x : RawD h d es ep) : d < h.objs.size := by
  obtain ⟨o, h1, _⟩ := x
  exact Heap.lt_size h1
section
variable {prog : Program} {w : World} {A : Around} {E : Value → Shared → Prop} {s : Shared} {d it : Addr} {es : Array DictEntry} {ep : Nat}
theorem RawD.ty (x : RawD s.heap d es ep) : s.TypeIs (.ref d) "dict" := by
  obtain ⟨o, h1, h2, _⟩ := x
  exact ⟨o, h1, h2.1⟩
theorem raw_iter {Q : Value → Shared → Prop} (hd : (d == sysModules) = false) (hm : RawD s.heap d es ep)
    (hQ : Q (.ref s.heap.objs.size) { s with heap := s.heap.push { cls := .type "dict_keyiterator", data := .fields #[.ref d, .int 0 0, .int es.size 0, .int ep 0] } }) : wpAny (model prog w) A (pyIter (.ref d)) Q E s := by
  have hT := hm.ty
  obtain ⟨o, ho, hc, hdat⟩ := hm
  refine wpAny_pyIter_slot hT F.slot_dict_iter (wpAny_call_entry F.slot_dict_iter hT F.entry_dict_iter (A := A) ?_ (F.args_dict_iter_1 _))
  unfold Builtin.«dict.__iter__»; refine wpAny_bind ?_; unfold Builtin.Dict.dictSlotNone; refine wpAny_bind (wpAny_notOrdered_dict hT ?_)
  show wpAny _ _ (pure (Value.ref d)) _ _ s; refine wpAny_pure ?_; show wpAny _ _ (Builtin.Dict.showsAll d >>= _) _ _ s
  unfold Builtin.Dict.showsAll; rw [if_neg (by rw [hd]; exact Bool.false_ne_true)]; refine wpAny_bind (wpAny_pure ?_)
  refine wpAny_bind (wpAny_dictEntries ho hdat (wpAny_bind (wpAny_dictEpoch ho hdat ?_)))
  refine wpAny_bind (wpAny_newObj_type (wpAny_pure ⟨_, rfl, "dict_keyiterator", _, ⟨_, Heap.get?_push_size _ rfl, rfl⟩, F.slot_dict_keyiterator_next.lookup, by simpa [rawInt] using hQ⟩))
theorem raw_next {i : Nat} {Q : Option Value → Shared → Prop} (hit : s.heap.IsKeyIter it d i es.size ep) (hm : RawD s.heap d es ep) (hi : i < es.size)
    (hQ : ∀ h', h'.IsKeyIter it d (i + 1) es.size ep → Heap.SameBut it s.heap h' → Q (some es[i].key) { s with heap := h' }) : wpAny (model prog w) A (pyNext (.ref it)) Q E s := by
  obtain ⟨o, ho, hc, hd⟩ := id hit; obtain ⟨od, hod, hcd, hdd⟩ := id hm; have hown : Builtin.Dict_items.ownsTuple "dict_keyiterator" = false := by decide
  unfold pyNext; refine wpAny_bind (wpAny_attempt (wpAny_callSpecial?_slot (name := Str.ofString "__next__") hit.typeIs F.slot_dict_keyiterator_next (wpAny_call_entry F.slot_dict_keyiterator_next hit.typeIs F.entry_dict_keyiterator_next ?_ (F.args_dict_keyiterator_next_1 _))))
  refine wpAny_bind (wpAny_pure (wpAny_bind (wpAny_bind ?_)))
  first | refine wpAny_bind (wpAny_typeNameOfWhole_keyiter hit.typeIs (wpAny_pure (wpAny_bind (wpAny_fieldsOf ho hd ?_)))) | refine wpAny_bind (wpAny_typeNameOf_keyiter hit.typeIs (wpAny_pure (wpAny_bind (wpAny_fieldsOf ho hd ?_))))
  simp only [hown, Bool.false_eq_true, if_false]; show wpAny _ _ (if (Value.ref d == Value.none) = true then _ else _) _ _ s
  rw [if_neg (show ¬ ((Value.ref d == Value.none) = true) from Bool.false_ne_true)]; refine wpAny_bind (wpAny_pure (wpAny_bind (wpAny_dictEntries hod hdd ?_)))
  rw [if_neg (by simp)]; refine wpAny_bind (wpAny_pure (wpAny_bind (wpAny_dictEpoch hod hdd ?_))); rw [if_neg (by simp)]; refine wpAny_pure ?_
  simp only [show ¬ ((i : Int) < 0) from by omega, if_false, Int.toNat_natCast, Array.getElem?_eq_getElem hi]; refine wpAny_bind ?_
  first | refine wpAny_bind (wpAny_typeNameOfWhole_keyiter hit.typeIs (wpAny_pure (wpAny_bind (wpAny_isOneOf_keyiter hit.typeIs ?_)))) | refine wpAny_bind (wpAny_typeNameOf_keyiter hit.typeIs (wpAny_pure (wpAny_bind (wpAny_isOneOf_keyiter hit.typeIs ?_))))
  show wpAny _ _ (setField (.ref it) 1 (rawInt ((i : Int) + 1)) >>= _) _ _ s; refine wpAny_bind (wpAny_setField ho hd (by simp) ?_)
  have hit' : (s.heap.update it (Obj.mapFields (·.setIfInBounds 1 (rawInt ((i : Int) + 1))))).IsKeyIter it d (i + 1) es.size ep := ⟨_, Heap.get?_update_self _ ho (Obj.isFreed_of_fields (Obj.data_mapFields hd _)), (Obj.cls_mapFields ..).trans hc, by rw [Obj.data_mapFields hd]; simp [rawInt]⟩
  refine wpAny_bind (wpAny_holding (wpAny_bind (wpAny_isOneOf_keyiter (s := { s with heap := s.heap.update it (Obj.mapFields (·.setIfInBounds 1 (rawInt ((i : Int) + 1)))) }) hit'.typeIs ?_)))
  show wpAny _ _ (pure es[i].key) _ _ _; exact wpAny_pure (wpAny_pure ⟨_, rfl, wpAny_pure (hQ _ hit' (Heap.SameBut.update ..))⟩)
theorem raw_end {i : Nat} {Q : Option Value → Shared → Prop} (hh : A.handled = none) (hit : s.heap.IsKeyIter it d i es.size ep) (hm : RawD s.heap d es ep) (hi : es.size ≤ i)
    (hQ : ∀ h', Heap.ExtBut it s.heap h' → Q none { s with heap := h' }) : wpAny (model prog w) A (pyNext (.ref it)) Q E s := by
  obtain ⟨o, ho, hc, hd⟩ := id hit; obtain ⟨od, hod, hcd, hdd⟩ := id hm; have hown : Builtin.Dict_items.ownsTuple "dict_keyiterator" = false := by decide
  unfold pyNext; refine wpAny_bind (wpAny_attempt (wpAny_callSpecial?_slot (name := Str.ofString "__next__") hit.typeIs F.slot_dict_keyiterator_next (wpAny_call_entry F.slot_dict_keyiterator_next hit.typeIs F.entry_dict_keyiterator_next ?_ (F.args_dict_keyiterator_next_1 _))))
  refine wpAny_bind (wpAny_pure (wpAny_bind (wpAny_bind ?_)))
  first | refine wpAny_bind (wpAny_typeNameOfWhole_keyiter hit.typeIs (wpAny_pure (wpAny_bind (wpAny_fieldsOf ho hd ?_)))) | refine wpAny_bind (wpAny_typeNameOf_keyiter hit.typeIs (wpAny_pure (wpAny_bind (wpAny_fieldsOf ho hd ?_))))
  simp only [hown, Bool.false_eq_true, if_false]; show wpAny _ _ (if (Value.ref d == Value.none) = true then _ else _) _ _ s
  rw [if_neg (show ¬ ((Value.ref d == Value.none) = true) from Bool.false_ne_true)]; refine wpAny_bind (wpAny_pure (wpAny_bind (wpAny_dictEntries hod hdd ?_)))
  rw [if_neg (by simp)]; refine wpAny_bind (wpAny_pure (wpAny_bind (wpAny_dictEpoch hod hdd ?_))); rw [if_neg (by simp)]; refine wpAny_pure ?_
  simp only [show ¬ ((i : Int) < 0) from by omega, if_false, Int.toNat_natCast, Array.getElem?_eq_none hi]; refine wpAny_bind ?_
  first | refine wpAny_bind (wpAny_typeNameOfWhole_keyiter hit.typeIs (wpAny_pure ?_)) | refine wpAny_bind (wpAny_typeNameOf_keyiter hit.typeIs (wpAny_pure (A := A.in1) ?_))
  show wpAny _ _ (setField (.ref it) 0 .none >>= _) _ _ s; refine wpAny_bind (wpAny_setField ho hd (by simp) ?_)
  show wpAny _ _ (newExc (.type "StopIteration") [] >>= _) _ _ _; refine wpAny_bind ?_; simp only [newExc, newTuple]
  refine wpAny_bind (wpAny_newObj_type (wpAny_bind (m := firstArgMember _ _) (wpAny_of_eq (a := Value.none) (by first | rfl | (simp only [firstArgMember]; rfl)) (wpAny_newObj_type ?_ (by size_fits)))) (by size_fits))
  simp only [raiseNew]; refine wpAny_bind (wpAny_handled ?_); rw [show A.in1.handled = none from hh]
  refine wpAny_bind (wpAny_pure (wpAny_throw ?_)); refine wpAny_bind (wpAny_isInstance (T := "StopIteration") (b := true) ⟨_, Heap.get?_push_size _ rfl, rfl⟩ isSubtype_stop ?_); exact wpAny_pure (hQ _ (((Heap.SameBut.update ..).extBut.push _).push _))
end
end Dj
set_option Elab.async false
set_option linter.all false
set_option maxRecDepth 100000
set_option maxHeartbeats 1000000
namespace Dj
open PySem PySem.Spec PySem.W PyProof.Rows L2 Tre Srt
section
variable {prog : Program} {w : World} {A : Around} {E : Value → Shared → Prop} {s : Shared} {T : String} {r d : Addr} {n : Nat} {P : Nat → Value → Prop} {OK : Heap → Prop}
end
section
variable {prog : Program} {w : World} {A : Around} {E : Value → Shared → Prop} {s : Shared} {lt : Nat → Nat → Bool} {κ : SortKind}
end
section
variable {X : Cx} {pins : List (Addr × Obj)} {σ : L2.St} {H : Hp} {s : Shared}
theorem re_refs {kvs : List Ent} {xs : List (List Tk.KT × Addr × Value)} (r : RE kvs xs) : (kvs.map fun e => V.ref e.2.1) = xs.map fun x => V.ref x.2.1 := by
  induction r with
  | nil => rfl
  | cons h _ ih => rw [List.map_cons, List.map_cons, ih, h.2.1]
end
end Dj
set_option Elab.async false
set_option linter.all false
set_option maxRecDepth 100000
set_option maxHeartbeats 1000000
namespace Su
open PySem L2 Tre Mth Wd
theorem Can.key {ps us : List Pq} (h : Can ps us) {p : Pq} (m : p ∈ us) : ∃ q ∈ ps, q.1 = p.1 := by
  refine Classical.byContradiction fun no => ?_
  have e := asc_tot h.asc m
  rw [h.eq, tot_none fun q mq ez => no ⟨q, mq, ez⟩] at e
  exact (h.sh p m).2 ((rv_ne (h.sh p m).1).mp e.symm)
def vl (W : Wld) (t : Tr) : Rat := rv (valT W t)
end Su
set_option Elab.async false
set_option linter.all false
set_option maxRecDepth 100000
set_option maxHeartbeats 1000000
namespace Dj
open PySem PySem.Spec PyProof.Rows L2 Tre Wd Su
section
variable {X : Cx} {pos : Pos} {o i : Expr} {td ty : TE} {P : Program} {w : World} {K : PySem.W.Frag}
end
mutual
def ktT : Tr → Tk.KT
  | .int i => .lf (.inl i)
  | .str x => .lf (.inr x)
  | .tup ts => .tp (ktTs ts)
  | _ => .tp []
def ktTs : List Tr → List Tk.KT
  | [] => []
  | t :: ts => ktT t :: ktTs ts
end
def ktL : Tr → List Tk.KT
  | .tup ts => ktTs ts
  | _ => []
mutual
def Kp : Tr → Prop
  | .int _ => True
  | .str _ => True
  | .tup ts => Kps ts
  | _ => False
def Kps : List Tr → Prop
  | [] => True
  | t :: ts => Kp t ∧ Kps ts
end
theorem kps_all {ts : List Tr} (h : ∀ t ∈ ts, Kp t) : Kps ts := by
  induction ts with
  | nil => trivial
  | cons t ts ih => exact ⟨h t List.mem_cons_self, ih fun u m => h u (List.mem_cons_of_mem _ m)⟩
theorem tm_kp {t : Tr} (h : Ty .tm t) : Kp t := by
  generalize e : So.tm = k at h
  induction h with
  | nm x => simp only [Kp, Kps, and_self]
  | ap x ts _ _ ih => simp only [Kp, Kps, and_true, true_and]; exact kps_all fun t m => ih t m e
  | fr => cases e
  | pr => cases e
  | fl => cases e
  | mo => cases e
  | li => cases e
  | no => cases e
  | bo => cases e
  | ei => cases e
  | lt => cases e
mutual
theorem kt_inj : ∀ {t u : Tr}, Kp t → Kp u → ktT t = ktT u → t = u
  | .int i, .int j, _, _, e => by simp only [ktT, Tk.KT.lf.injEq, Sum.inl.injEq] at e; rw [e]
  | .int i, .str y, _, _, e => by simp [ktT] at e
  | .int i, .tup us, _, _, e => by simp [ktT] at e
  | .str x, .int j, _, _, e => by simp [ktT] at e
  | .str x, .str y, _, _, e => by simp only [ktT, Tk.KT.lf.injEq, Sum.inr.injEq] at e; rw [e]
  | .str x, .tup us, _, _, e => by simp [ktT] at e
  | .tup ts, .int j, _, _, e => by simp [ktT] at e
  | .tup ts, .str y, _, _, e => by simp [ktT] at e
  | .tup ts, .tup us, h1, h2, e => by
    simp only [ktT, Tk.KT.tp.injEq] at e
    rw [kts_inj h1 h2 e]
theorem kts_inj : ∀ {ts us : List Tr}, Kps ts → Kps us → ktTs ts = ktTs us → ts = us
  | [], [], _, _, _ => rfl
  | [], _ :: _, _, _, e => by simp [ktTs] at e
  | _ :: _, [], _, _, e => by simp [ktTs] at e
  | t :: ts, u :: us, h1, h2, e => by
    simp only [ktTs, List.cons.injEq] at e
    rw [kt_inj h1.1 h2.1 e.1, kts_inj h1.2 h2.2 e.2]
end
theorem ktL_inj {t u : Tr} (h1 : Ty .tm t) (h2 : Ty .tm u) (e : ktL t = ktL u) : t = u := by
  have k1 := tm_kp h1
  have k2 := tm_kp h2
  obtain ⟨ts, rfl⟩ := tm_tup h1
  obtain ⟨us, rfl⟩ := tm_tup h2
  rw [kts_inj k1 k2 e]
mutual
theorem kt_dep : ∀ {t : Tr}, Kp t → (ktT t).depth = t.depth
  | .int i, _ => by simp [ktT, Tk.KT.depth, Tr.depth]
  | .str x, _ => by simp [ktT, Tk.KT.depth, Tr.depth]
  | .tup ts, k => by
    simp only [ktT, Tk.KT.depth, Tr.depth]
    rw [kts_dep k]
theorem kts_dep : ∀ {ts : List Tr}, Kps ts → Tk.KTs.depth (ktTs ts) = Trs.depth ts
  | [], _ => by simp [ktTs, Tk.KTs.depth, Trs.depth]
  | t :: ts, k => by
    simp only [ktTs, Tk.KTs.depth, Trs.depth]
    rw [kt_dep k.1, kts_dep k.2]
end
section
variable {K : PySem.W.Frag} {H : Hp}
mutual
theorem kvt_of : ∀ {v : V} {t : Tr}, Kp t → TrAt H v t → KVt K H v (ktT t)
  | v, .int i, _, h => by unfold TrAt at h; simp only [ktT, KVt]; exact h
  | v, .str x, _, h => by unfold TrAt at h; simp only [ktT, KVt]; exact h
  | v, .tup ts, k, h => by
    unfold TrAt at h
    obtain ⟨r, vs, e, h1, h2⟩ := h
    simp only [ktT, KVt]
    exact ⟨r, vs, e, .inl h1, kvts_of k h2⟩
theorem kvts_of : ∀ {vs : List V} {ts : List Tr}, Kps ts → TrsAt H vs ts → KVts K H vs (ktTs ts)
  | vs, [], _, h => by unfold TrsAt at h; simp only [ktTs, KVts]; exact h
  | vs, t :: ts, k, h => by
    obtain ⟨v, r, e, h1, h2⟩ := h.inv
    simp only [ktTs, KVts]
    exact ⟨v, r, e, kvt_of k.1 h1, kvts_of k.2 h2⟩
end
theorem key_tm {b : Addr} {t : Tr} (ty : Ty .tm t) (hd : t.depth ≤ 7) (h : TrAt H (.ref b) t) : KeyAt K H (ktL t) b := by
  have kp := tm_kp ty
  obtain ⟨ts, rfl⟩ := tm_tup ty
  unfold TrAt at h
  obtain ⟨r, vs, e, h1, h2⟩ := h
  cases e
  refine ⟨vs, .inl h1, kvts_of kp h2, ?_⟩
  have := @kts_dep ts kp
  simp only [Tr.depth] at hd
  simp only [ktL, Tk.KT.depth]
  omega
end
theorem tm_ref {H : Hp} {v : V} {t : Tr} (ty : Ty .tm t) (h : TrAt H v t) : ∃ b, v = .ref b := by
  obtain ⟨ts, rfl⟩ := tm_tup ty
  unfold TrAt at h
  obtain ⟨r, vs, e, _⟩ := h
  exact ⟨r, e⟩
def En (H : Hp) (g : Tr → Fr) (e : Ent) (t : Tr) : Prop := e.1 = ktL t ∧ TrAt H (.ref e.2.1) t ∧ TrAt H e.2.2 (frT (g t))
structure DAt (P : Program) (w : World) (K : PySem.W.Frag) (H : Hp) (a : Addr) (ks : List Tr) (g : Tr → Fr) : Prop where
  ex : ∃ kvs, DJ P w K H a kvs ∧ Paired (En H g) kvs ks
  ty : ∀ t ∈ ks, Ty .tm t ∧ t.depth ≤ 7
  nd : ks.Nodup
section
variable {P : Program} {w : World} {K : PySem.W.Frag} {H H' : Hp} {a : Addr} {ks : List Tr} {g : Tr → Fr}
theorem en_mono {kvs : List Ent} (k : Kd H H') (h : Paired (En H g) kvs ks) : Paired (En H' g) kvs ks := Paired.imp' (fun e t x => ⟨x.1, x.2.1.mono k, x.2.2.mono k⟩) h
theorem DAt.kd (x : DAt P w K H a ks g) (k : Kd H H') (hs : ∀ o, (∀ xs, o ≠ .lst xs) → H a = some o → H' a = some o) : DAt P w K H' a ks g := by
  obtain ⟨kvs, d, p⟩ := x.ex
  exact ⟨⟨kvs, d.kd k (hs _ (fun _ z => by cases z) d.at_), en_mono k p⟩, x.ty, x.nd⟩
theorem DAt.same (x : DAt P w K H a ks g) (s : Same H H') : DAt P w K H' a ks g := x.kd (Kd.of_same s) fun o _ e => s _ _ e
theorem en_val {kvs : List Ent} (h : Paired (En H g) kvs ks) (ty : ∀ t ∈ ks, Ty .tm t) {t : Tr} (tt : Ty .tm t) : (t ∈ ks → ∃ v, valJ kvs (ktL t) = some v ∧ TrAt H v (frT (g t))) ∧ (t ∉ ks → valJ kvs (ktL t) = none) := by
  induction h with
  | nil => exact ⟨fun m => (by cases m), fun _ => rfl⟩
  | @cons e u es us h1 _ ih =>
    obtain ⟨i1, i2⟩ := ih fun x m => ty x (List.mem_cons_of_mem _ m)
    by_cases z : u = t
    · subst z
      exact ⟨fun _ => ⟨e.2.2, valJ_pos h1.1, h1.2.2⟩, fun n => absurd List.mem_cons_self n⟩
    · have ne : ¬ e.1 = ktL t := fun q => z (ktL_inj (ty u List.mem_cons_self) tt (h1.1.symm.trans q))
      refine ⟨fun m => ?_, fun n => ?_⟩
      · rw [valJ_neg ne]
        rcases List.mem_cons.mp m with e' | m
        · exact absurd e'.symm z
        · exact i1 m
      · rw [valJ_neg ne]
        exact i2 fun m => n (List.mem_cons_of_mem _ m)
theorem DAt.val (x : DAt P w K H a ks g) {t : Tr} (tt : Ty .tm t) : ∃ kvs, DJ P w K H a kvs ∧ kvs.length = ks.length ∧ (t ∈ ks → ∃ v, valJ kvs (ktL t) = some v ∧ TrAt H v (frT (g t))) ∧ (t ∉ ks → valJ kvs (ktL t) = none) := by
  obtain ⟨kvs, d, p⟩ := x.ex
  exact ⟨kvs, d, Paired.length p, en_val p (fun t m => (x.ty t m).1) tt⟩
open Classical in
noncomputable def setG (g : Tr → Fr) (t : Tr) (f : Fr) : Tr → Fr := fun u => if u = t then f else g u
open Classical in
noncomputable def addK (ks : List Tr) (t : Tr) : List Tr := if t ∈ ks then ks else ks ++ [t]
theorem en_map {kvs : List Ent} {t : Tr} {f : Fr} {v : V} (hv : TrAt H v (frT f)) (tt : Ty .tm t) (h : Paired (En H g) kvs ks) (ty : ∀ t ∈ ks, Ty .tm t) : Paired (En H (setG g t f)) (kvs.map fun p => if p.1 = ktL t then (p.1, p.2.1, v) else p) ks := by
  induction h with
  | nil => exact .nil
  | @cons e u es us h1 _ ih =>
    rw [List.map_cons]
    refine .cons ?_ (ih fun x m => ty x (List.mem_cons_of_mem _ m))
    by_cases z : u = t
    · subst z
      rw [if_pos h1.1]
      refine ⟨h1.1, h1.2.1, ?_⟩
      unfold setG
      rw [if_pos rfl]
      exact hv
    · have ne : ¬ e.1 = ktL t := fun q => z (ktL_inj (ty u List.mem_cons_self) tt (h1.1.symm.trans q))
      rw [if_neg ne]
      refine ⟨h1.1, h1.2.1, ?_⟩
      unfold setG
      rw [if_neg z]
      exact h1.2.2
theorem en_set {kvs : List Ent} {t : Tr} {f : Fr} (n : t ∉ ks) (h : Paired (En H g) kvs ks) : Paired (En H (setG g t f)) kvs ks := by
  induction h with
  | nil => exact .nil
  | @cons e u es us h1 _ ih =>
    refine .cons ⟨h1.1, h1.2.1, ?_⟩ (ih fun m => n (List.mem_cons_of_mem _ m))
    unfold setG
    rw [if_neg (fun z => n (by rw [← z]; exact List.mem_cons_self))]
    exact h1.2.2
theorem DAt.put (x : DAt P w K H a ks g) {t : Tr} {b : Addr} {v : V} {f : Fr} (tt : Ty .tm t) (hd : t.depth ≤ 7) (hb : TrAt H (.ref b) t) (hv : TrAt H v (frT f)) {kvs : List Ent} (d : DJ P w K H a kvs) (hk : DAt P w K H a ks g → Paired (En H g) kvs ks) :
    DAt P w K (upd H a (dJ P w a (putJ kvs (ktL t) b v))) a (addK ks t) (setG g t f) := by
  have p := hk x
  have kd := Kd.updJ (o := dJ P w a (putJ kvs (ktL t) b v)) d.at_
  have ev := en_val p (fun t m => (x.ty t m).1) tt
  refine ⟨⟨_, d.put (key_tm tt hd hb), ?_⟩, fun u m => ?_, ?_⟩
  · refine en_mono kd ?_
    unfold putJ addK
    by_cases m : t ∈ ks
    · obtain ⟨v', e', _⟩ := ev.1 m
      rw [e', if_pos m, if_pos (show (some v').isSome = true from rfl)]
      exact en_map hv tt p fun t m => (x.ty t m).1
    · rw [ev.2 m, if_neg m, if_neg (by simp)]
      refine Paired.snoc (en_set m p) ⟨rfl, hb, ?_⟩
      unfold setG
      rw [if_pos rfl]
      exact hv
  · unfold addK at m
    split at m
    · exact x.ty u m
    · rcases List.mem_append.mp m with m | m
      · exact x.ty u m
      · rw [List.mem_singleton.mp m]
        exact ⟨tt, hd⟩
  · unfold addK
    split
    · exact x.nd
    · rename_i n
      exact List.nodup_append.mpr ⟨x.nd, (by simp), fun u mu y my => by rw [List.mem_singleton.mp my]; exact fun z => n (by rw [← z]; exact mu)⟩
theorem DAt.keys (x : DAt P w K H a ks g) : ∃ kvs, DJ P w K H a kvs ∧ TrsAt H (kvs.map fun e => V.ref e.2.1) ks := by
  obtain ⟨kvs, d, p⟩ := x.ex
  refine ⟨kvs, d, ?_⟩
  clear d x
  induction p with
  | nil => exact .nil
  | cons h1 _ ih => exact .cons h1.2.1 ih
end
open Classical in
structure Sd (ds : List Pq) (ks : List Tr) (g : Tr → Fr) : Prop where
  sh : ∀ t ∈ ks, Sh (g t)
  eq : ∀ t, tot t ds = if t ∈ ks then rv (g t) else 0
theorem Sd.nil (g : Tr → Fr) : Sd [] [] g := ⟨fun t m => (by cases m), fun t => (by rw [if_neg (by simp)]; rfl)⟩
open Classical in
theorem Sd.add {ds : List Pq} {ks : List Tr} {g : Tr → Fr} (h : Sd ds ks g) {p : Pq} {f : Fr} (hf : Sh f) (e : rv f = (if p.1 ∈ ks then rv (g p.1) else 0) + rv p.2) : Sd (ds ++ [p]) (addK ks p.1) (setG g p.1 f) := by
  refine ⟨fun t m => ?_, fun t => ?_⟩
  · unfold setG
    by_cases z : t = p.1
    · rw [if_pos z]; exact hf
    · rw [if_neg z]
      unfold addK at m
      split at m
      · exact h.sh t m
      · rcases List.mem_append.mp m with m | m
        · exact h.sh t m
        · exact absurd (List.mem_singleton.mp m) z
  · rw [tot_app, tot_one, h.eq]
    unfold addK setG
    by_cases z : t = p.1
    · subst z
      rw [if_pos rfl]
      by_cases m : p.1 ∈ ks
      · rw [if_pos m, if_pos m, if_pos m, if_pos rfl, e, if_pos m]
      · have m2 : p.1 ∈ ks ++ [p.1] := List.mem_append_right _ List.mem_cons_self
        rw [if_neg m, if_neg m, if_pos m2, if_pos rfl, e, if_neg m]
    · have z' : ¬ p.1 = t := fun q => z q.symm
      have ek : (t ∈ (if p.1 ∈ ks then ks else ks ++ [p.1])) ↔ t ∈ ks := by
        split
        · exact Iff.rfl
        · rw [List.mem_append, List.mem_singleton]
          exact ⟨fun q => q.elim id fun q => absurd q z, .inl⟩
      simp only [ek, z, z', if_false]
      grind
end Dj
set_option Elab.async false
set_option linter.all false
set_option maxRecDepth 100000
set_option maxHeartbeats 400000
namespace Dj
open PySem PySem.Spec PyProof.Rows L2 Tre Wd Su
def Itd (a : Addr) (o : Obj) (u : HO) (ks : List V) : It := ⟨fun i H => H a = some (.frz o u) ∧ i < ks.length, fun i H x H' => H' = H ∧ ks[i]? = some x, fun i H => H a = some (.frz o u) ∧ ks.length ≤ i⟩
theorem turn_dict {P : Program} {w : World} {K : PySem.W.Frag} {tg : Expr} {a it : Addr} {o : Obj} {u : HO} {es : Array DictEntry} {ep : Nat} {ks : List V} (hx : o.ExactDict) (hd : o.data = .dict es ep) (hl : ks.length = es.size) (hk : ∀ i (h : i < es.size), ∃ v, ks[i]? = some v ∧ RelV v es[i].key) :
    Turn P w K tg (Itd a o u ks) [it] it (fun i h => h.IsKeyIter it a i es.size ep) where
  mem := by simp
  obj := fun i h st b hb => by
    have e : b = it := by simpa using hb
    subst e
    obtain ⟨o, e, c, d⟩ := st
    exact ⟨o, e, fun v z => by rw [d] at z; cases z⟩
  keep := fun i h h' st k => st.at fun o e => k it (by simp) o e
  item := by
    intro X hP hw hK hc i pins s σ H E I hf st hg
    subst hP hw hK
    obtain ⟨ha, hi⟩ := hg
    have raw : RawD s.heap a es ep := ⟨o, (I.hok a _ ha).1, hx, hd⟩
    obtain ⟨f0, f1, f2, f3, f4, f5⟩ := hf it (by simp)
    obtain ⟨v, hv, rv⟩ := hk i (by omega)
    refine raw_next st raw (by omega) fun h' st' sb => ?_
    have I1 : Inv X pins σ H { s with heap := h' } := I.turned (t' := s.toks) (fun b o hb e => (sb.2 b hb).trans e) f0 f1 f3 f4 f5
    obtain ⟨o', e, c, d⟩ := id st'
    exact ⟨_, rfl, go_of (s := { s with heap := h' }) e c d (by decide) ⟨v, H, I1, rv, ⟨rfl, hv⟩, st', fun b hb => (hf b hb).1⟩⟩
  done := by
    intro X hP hw hK hc i pins s σ H E I hf st hg
    subst hP hw hK
    obtain ⟨ha, hi⟩ := hg
    have raw : RawD s.heap a es ep := ⟨o, (I.hok a _ ha).1, hx, hd⟩
    obtain ⟨f0, f1, f2, f3, f4, f5⟩ := hf it (by simp)
    exact raw_end (I.ok.hd hc) st raw (by omega) fun h' eb => ⟨rfl, I.turned (t' := s.toks) (fun b o hb e => eb b o hb e) f0 f1 f3 f4 f5⟩
  self := fun A i s Q E st hq => wpAny_pyIter_keyiter st hq
section
variable {X : Cx} {pins : List (Addr × Obj)} {σ : L2.St} {H : Hp} {s : Shared} {a : Addr}
theorem frz_inv {kvs : List Ent} {o : Obj} {P : Program} {w : World} (I : Inv X pins σ H s) (ha : H a = some (dJ P w a kvs)) (ho : s.heap.get? a = some o) : Inv X pins σ (upd H a (.frz o (dJ P w a kvs))) s := by
  have ne : ∀ {b : Addr} {u : HO}, H b = some u → (∀ z, dJ P w a kvs = z → u ≠ z) → b ≠ a := fun e q z => by
    rw [z, ha] at e
    exact q _ rfl (Option.some.inj e).symm
  have st : ∀ {b : Addr} {u : HO}, ObjOk X.prog X.w H s.heap b u → ObjOk X.prog X.w (upd H a (.frz o (dJ P w a kvs))) s.heap b u := fun x =>
    x.stay (fun _ _ _ q => q) (fun b q => by rw [upd_ne (ne q fun z e => by subst e; intro t; cases t)]; exact q) fun b xs q => by rw [upd_ne (ne q fun z e => by subst e; intro t; cases t)]; exact q
  exact I.step (h' := s.heap) (g' := s.gens) (d' := s.drawn) (t' := s.toks) (ch := []) (fun _ z => nomatch z) (fun b o _ _ _ e _ => e) (fun b o _ _ _ e _ => ⟨o.slots, e⟩)
    (fun b o _ e n => by rw [upd_ne (fun z => by rw [z, ha] at n; cases n)]; exact n) (fun b o _ e => ⟨o, e⟩)
    (fun b xs e => by rw [upd_ne (ne e fun z q => by subst q; intro t; cases t)]; exact e) (fun b o' u e => by rw [upd_ne (ne e fun z q => by subst q; intro t; cases t)]; exact e)
    (fun b ps e => ⟨#[], by rw [upd_ne (ne e fun z q => by subst q; intro t; cases t), e]; simp⟩) (fun m hm => hm) (fun b u e => by
      by_cases z : b = a
      · subst z
        rw [upd_same] at e
        cases e
        exact ⟨ho, st (I.hok b _ ha)⟩
      · rw [upd_ne z] at e
        exact st (I.hok b u e)) I.bare
noncomputable def iDictJ (P : Program) (w : World) (K : PySem.W.Frag) (tl : TE) : TI := fun σ H R => tl σ H fun x H1 => ∃ a kvs, x = .ref a ∧ DJ P w K H1 a kvs ∧ ∀ o, R (Itd a o (dJ P w a kvs) (kvs.map fun e => V.ref e.2.1)) (upd H1 a (.frz o (dJ P w a kvs)))
theorem pi_dictJ0 {tg l : Expr} {tl : TE} (hl : PE X l tl) : PI X tg l (iDictJ X.prog X.w X.K tl) := by
  intro pins s σ H R I h
  refine thn (hl pins s σ H _ I h) fun v s1 ⟨x, H1, I1, r1, q1⟩ => ?_
  obtain ⟨a, kvs, e, d, q⟩ := q1
  subst e
  cases r1
  obtain ⟨z, hd, xs, rel, o, es, ep, h1, h2, h3, h4, h5⟩ := dj_of I1.hok I1.kIn d
  have raw : RawD s1.heap a es ep := ⟨o, h1, h2, h3⟩
  have le : es.size = xs.length := by
    have := congrArg List.length h4
    simpa using this
  have lk : (kvs.map fun e => V.ref e.2.1).length = es.size := by rw [List.length_map, Paired.length rel, le]
  refine raw_iter hd raw ?_
  have I2 := frz_inv I1 d.at_ h1
  refine ⟨s1.heap.objs.size, [s1.heap.objs.size], _, _, _, rfl, I2.kept (t' := s1.toks) fun b o e => Heap.get?_push_of_some _ e, turn_dict h2 h3 lk (fun i hi => ?_), ⟨_, Heap.get?_push_size _ rfl, rfl, rfl⟩, fun b hb => ?_, q o⟩
  · rw [re_refs rel]
    have hi' : i < xs.length := by omega
    refine ⟨.ref (xs[i]).2.1, by rw [List.getElem?_map, List.getElem?_eq_getElem hi']; rfl, ?_⟩
    have e1 : es[i] = entryOfKey (Tk.treeKind X.prog X.w) xs[i] := by
      have : es.toList[i]? = (xs.map (entryOfKey (Tk.treeKind X.prog X.w)))[i]? := by rw [h4]
      rw [List.getElem?_map, List.getElem?_eq_getElem hi', Array.getElem?_toList, Array.getElem?_eq_getElem hi] at this
      exact Option.some.inj this
    rw [e1]
    rfl
  · have e : b = s1.heap.objs.size := by simpa using hb
    subst e
    exact I2.fpOk (Nat.le_refl _) (I2.hok.fresh (Nat.le_refl _))
end
theorem pi_dictJ {X : Cx} {tg l : Expr} {tl : TE} {P : Program} {w : World} {K : PySem.W.Frag} (hP : X.prog = P) (hw : X.w = w) (hK : X.K = K) (hl : PE X l tl) : PI X tg l (iDictJ P w K tl) := by
  subst hP hw hK
  exact pi_dictJ0 hl
theorem comp_dict {a D : Addr} {o : Obj} {u : HO} {ks : List V} {te : TE} {rest : L2.St} {Q : VK} {H1 : Hp} (Pv : Nat → List V → Hp → Prop) (h0 : Pv 0 [] (upd H1 D (.lst [])))
    (hl : ∀ i acc H, Pv i acc H → H a = some (.frz o u))
    (hs : ∀ i x acc H, i < ks.length → ks[i]? = some x → Pv i acc H → te (some x :: rest) H (CompN ks.length i D acc Pv))
    (hd : ∀ acc H, Pv ks.length acc H → Q (.ref D) H) : CompW (Itd a o u ks) D te rest Q H1 := by
  refine comp_go ks.length Pv h0 (fun i acc H hi p => ⟨hl i acc H p, hi⟩) (fun i x acc H H' hi p y => ?_) fun acc H p => ⟨⟨hl _ acc H p, Nat.le_refl _⟩, hd acc H p⟩
  obtain ⟨e, y⟩ := y
  subst e
  exact hs i x acc _ hi y p
structure DJr (P : Program) (w : World) (K : PySem.W.Frag) (H : Hp) (a : Addr) (kvs : List Ent) : Prop where
  at_ : Rd H a (dJ P w a kvs)
  keys : ∀ p ∈ kvs, KeyAt K H p.1 p.2.1
theorem djr_of {P : Program} {w : World} {H : Hp} {h : Heap} {a : Addr} {K : PySem.W.Frag} {kvs : List Ent} (ok : HOk P w H h) (kin : K.In h) (d : DJr P w K H a kvs) : kvs.length ≤ sizeLine ∧ (a == sysModules) = false ∧ ∃ xs, RE kvs xs ∧ h.DictOfH (Tk.treeKind P w) a xs := by
  obtain ⟨⟨z, y, xs, r, o, es, ep, h1, h2, h3, h4, h5⟩, _⟩ := (show ObjOk P w H h a (dJ P w a kvs) from d.at_.ok ok)
  refine ⟨z, y, xs, r, o, es, ep, h1, h2, h3, h4, ?_, h5⟩
  have all : ∀ {l : List Ent} {m : List (List Tk.KT × Addr × Value)}, RE l m → (∀ p ∈ l, KeyAt K H p.1 p.2.1) → ∀ x ∈ m, (Tk.treeKind P w).is h x.1 x.2.1 := by
    intro l m q
    induction q with
    | nil => intro _ x hx; exact nomatch hx
    | @cons p q ps qs hq t ih =>
      intro kp x hx
      rcases List.mem_cons.mp hx with e | hx
      · subst e
        rw [← hq.1, ← hq.2.1]
        exact (kp p List.mem_cons_self).is ok kin
      · exact ih (fun p m => kp p (List.mem_cons_of_mem _ m)) x hx
  exact all r d.keys
noncomputable def tDIxR (P : Program) (w : World) (K : PySem.W.Frag) (td ty : TE) : TE := fun σ H Q => td σ H fun x H1 => ty σ H1 fun y H2 => ∃ a b k kvs v, x = .ref a ∧ y = .ref b ∧ DJr P w K H2 a kvs ∧ KeyAt K H2 k b ∧ valJ kvs k = some v ∧ Q v H2
theorem pe_ixR {X : Cx} {pos : Pos} {o i : Expr} {td ty : TE} {P : Program} {w : World} {K : PySem.W.Frag} (hP : X.prog = P) (hw : X.w = w) (hK : X.K = K) (hu : X.A.units + 30 < cLine) (ho : PE X o td) (hi : PE X i ty) (hs : NoSl i) : PE X (.Subscript o i pos) (tDIxR P w K td ty) := by
  subst hP hw hK
  intro pins s σ H Q I h
  refine subD_of PySem.F.slot_dict_getitem.lookup hs (thn (ho pins s σ H _ I h) fun u s1 ⟨x, H1, I1, rx, q1⟩ => thn (hi pins s1 σ H1 _ I1 q1) fun iv s2 ⟨y, H2, I2, ry, a, b, k, kvs, v, ex, ey, d, kb, e, q2⟩ => ?_)
  subst ex ey
  obtain rfl : u = Value.ref a := rx
  obtain rfl : iv = Value.ref b := ry
  obtain ⟨z, hd, xs, rel, dd⟩ := djr_of I2.hok I2.kIn d
  have rr := rel.val k
  rw [e] at rr
  cases ea : atKey xs k with
  | none => rw [ea] at rr; exact rr.elim
  | some p =>
    rw [ea] at rr
    exact ⟨dd.typeIs, wpAny_getItem_heap (by show X.A.units + 1 + 20 < cLine; omega) (kb.is I2.hok I2.kIn) dd ea ⟨v, H2, I2.tok _, rr, q2⟩⟩
end Dj
set_option Elab.async false
set_option linter.all false
set_option maxRecDepth 100000
set_option maxHeartbeats 4000000
namespace K77
open PySem L2 Mth Tre Wd Su Dj Tw
theorem tcons_cb2 {r : List V → Hp → VK → Prop} {te : TE} {tr : TA} {σ : L2.St} {H : Hp} {Q : List V → Hp → Prop} (h : te σ H fun v H1 => r [v] H1 fun u H2 => tr σ H2 fun us H3 => Q (u :: us) H3) : tCons (tCB r (tCons te tNil)) tr σ H Q := h
theorem tcb1 {r : List V → Hp → VK → Prop} {te : TE} {σ : L2.St} {H : Hp} {Q : VK} (h : te σ H fun v H1 => r [v] H1 Q) : tCB r (tCons te tNil) σ H Q := h
theorem tret_tc {v : V} {tr : TA} {Z : Ends} {σ : L2.St} {H : Hp} (h : tr σ H fun xs H1 => (v :: xs).length ≤ sizeLine ∧ ∀ p, H1 p = none → Z.rt (.ref p) (upd H1 p (.tup (v :: xs)))) : tRet (tTup (tCons (tC v) tr)) Z σ H := h
theorem prs_of {Good : Pq → Prop} : ∀ {us : List Tr}, (∀ u ∈ us, ∃ p : Pq, u = prT p ∧ Good p) → ∃ ps : List Pq, us = ps.map prT ∧ ps.length = us.length ∧ ∀ p ∈ ps, Good p
  | [], _ => ⟨[], rfl, rfl, fun p m => by cases m⟩
  | u :: us, h => by
    obtain ⟨p, e, hp⟩ := h u List.mem_cons_self
    obtain ⟨ps, e2, e3, hps⟩ := prs_of fun v m => h v (List.mem_cons_of_mem _ m)
    refine ⟨p :: ps, by rw [List.map_cons, e, e2], by rw [List.length_cons, List.length_cons, e3], fun q m => ?_⟩
    rcases List.mem_cons.mp m with rfl | m
    · exact hp
    · exact hps q m
theorem en_keys {H : Hp} {g : Tr → Fr} : ∀ {kvs : List Ent} {ks : List Tr}, Paired (Dj.En H g) kvs ks → TrsAt H (kvs.map fun e => V.ref e.2.1) ks := by
  intro kvs ks h
  induction h with
  | nil => exact .nil
  | cons h1 _ ih => exact .cons h1.2.1 ih
section
variable {P : Program} {w : World} {K : PySem.W.Frag} {mg : Str → Option Value} {base : Heap}
def spAtom (K : PySem.W.Frag) : Sp := fun vs H Q _ => ∃ (a : Addr) (ns : List Int) (kk : Int), vs = [.ref a, .int kk] ∧ SqL K H a (ns.map V.int) ∧ ns.length ≤ 63 ∧ 0 ≤ kk ∧ kk ≤ 80000 ∧ ∀ v t c H', Same H H' → TrAt H' v t → (∀ n, Wy n t c) → Q v H'
theorem scAt : FnScope ["_law_script", "_law_k", "_law_way", "_law_pool", "_law_shares", "_law_n", "_law_bound"] ["_law_script", "_law_k"] (defScope sAtom) := ⟨rfl, rfl, rfl, by decide +kernel, rfl, by decide +kernel, by decide +kernel⟩
theorem ok_atom {f fD fT fS : Addr} {fd dD dT dS : FuncData} (F : Fun K "_law_atom" "_law_atom" sAtom f fd) (B : Blt mg)
    (gD : FnOk P w K mg base CX0 1 fD dD ["_law_script", "_law_k", "_law_many"] (spDraw K)) (kD : PySem.W.keepIn K (.ref fD) = true) (bD : Binds K dD ["_law_script", "_law_k", "_law_many"] []) (mD : mg "_law_draw" = some (.ref fD))
    (gT : FnOk P w K mg base CX0 2 fT dT ["_law_script", "_law_k"] (spTerm K)) (kT : PySem.W.keepIn K (.ref fT) = true) (bT : Binds K dT ["_law_script", "_law_k"] []) (mT : mg "_law_term" = some (.ref fT))
    (gS : FnOk P w K mg base CX0 2 fS dS ["_law_script", "_law_k"] (spShr K)) (kS : PySem.W.keepIn K (.ref fS) = true) (bS : Binds K dS ["_law_script", "_law_k"] []) (mS : mg "_law_share" = some (.ref fS)) : FnOk P w K mg base CX0 3 f fd ["_law_script", "_law_k"] (spAtom K) := by
  refine F.ok scAt (fun vs H Q E h => ?_) (fun cdv A outer s H vs Q E hr h => ?_)
  · obtain ⟨a, ns, kk, rfl, _⟩ := h
    rfl
  obtain ⟨a, ns, kk, rfl, hS, h63, k0, k8, k⟩ := h
  have hr1 : Room 1 _ := hr.mono (by decide)
  have hr2 : Room 2 _ := hr.mono (by decide)
  have hun := hr.units
  have hu30 := Nat.lt_of_le_of_lt (Nat.add_le_add_left (show 30 ≤ 64 by decide) _) hun
  have hu60 := Nat.lt_of_le_of_lt (Nat.add_le_add_left (show 60 ≤ 64 by decide) _) hun
  refine ⟨_, pss_cons (ps_set (i := 2) scAt.nd rfl (Or.inl rfl) (pe_call gD hr1 rfl mD kD bD .nil pass0 (pa_cons (pv 0) (pa_cons (pv 1) (pa_cons pe_int pa_nil)))))
    (pss_cons (ps_if (pt_cmpR op_eq (pv 2) pe_int (nomark _)) (pss_one (ps_ret (pe_tup (pa_cons pe_str (pa_cons (pe_ix ix_list (pe_litL 9 rfl) (pe_call gD hr1 rfl mD kD bD .nil pass0 (pa_cons (pv 0) (pa_cons (pe_op op_add (pv 1) pe_int) (pa_cons pe_int pa_nil)))) fun _ _ => rfl) pa_nil))))) pss_nil)
    (pss_cons (ps_if (pt_cmpR op_lt (pv 2) pe_int (nomark _)) (pss_one (ps_ret (pe_tup (pa_cons pe_str (pa_cons (pe_call gT hr2 rfl mT kT bT .nil pass0 (pa_cons (pv 0) (pa_cons (pe_op op_add (pv 1) pe_int) pa_nil))) (pa_cons (pe_call gT hr2 rfl mT kT bT .nil pass0 (pa_cons (pv 0) (pa_cons (pe_op op_add (pv 1) pe_int) pa_nil))) pa_nil)))))) pss_nil)
    (pss_cons (ps_set (i := 3) scAt.nd rfl (Or.inl rfl) (pe_litL 9 rfl))
    (pss_cons (ps_set (i := 3) scAt.nd rfl (Or.inl rfl) (pe_op op_cat (pv 3) (pe_lst (pa_cc (pa_cons (pe_ix ix_list (pv 3) pe_int fun _ _ => rfl) pa_nil) (pa_cc (pa_cons (pe_ix ix_list (pv 3) pe_int fun _ _ => rfl) pa_nil) pa_nil)))))
    (pss_cons (ps_set (i := 4) scAt.nd rfl (Or.inr rfl) (pe_newJ (P := P) (w := w) rfl rfl))
    (pss_cons (ps_for PassesOwn.never rfl (pi_range1 rfl B.ra (pa_cons (pe_op op_add pe_int (pe_call gD hr1 rfl mD kD bD .nil pass0 (pa_cons (pv 0) (pa_cons (pe_op op_add (pv 1) pe_int) (pa_cons pe_int pa_nil))))) pa_nil)) (pg_name (i := 5) scAt.nd rfl (Or.inl rfl))
      (pss_one (ps_putJ (P := P) (w := w) (K := K) rfl rfl rfl hu30 (pv 4) (pe_ix ix_list (pv 3) (pe_call gD hr1 rfl mD kD bD .nil pass0 (pa_cons (pv 0) (pa_cons (pe_op op_add (pe_op op_add (pv 1) pe_int) (pv 5)) (pa_cons pe_int pa_nil)))) fun _ _ => rfl)
        (pe_call gS hr2 rfl mS kS bS .nil pass0 (pa_cons (pv 0) (pa_cons (pe_op op_add (pe_op op_add (pv 1) pe_int) (pe_op op_mul pe_int (pv 5))) pa_nil))) rfl)))
    (pss_cons (ps_set (i := 6) scAt.nd rfl (Or.inl rfl) (pe_ix ix_list (pe_litL 9 rfl) (pe_call gD hr1 rfl mD kD bD .nil pass0 (pa_cons (pv 0) (pa_cons (pe_op op_add (pv 1) pe_int) (pa_cons pe_int pa_nil)))) fun _ _ => rfl))
    (pss_one (ps_ret (pe_tup (pa_cons pe_str (pa_cons (pe_callTy call_tuple_of rfl B.tu PyProof.Rows.boot_tuple (pa_cons (pe_callB (call_sorted hu60) rfl B.so PyProof.Rows.boot_sorted (pa_cons
      (pe_comp (NC := ["_law_term_here", "_law_shares"]) (mp := [none, some 4]) rfl (pi_dictJ (P := P) (w := w) (K := K) rfl rfl rfl (pv 4)) (fun _ _ _ _ _ => pg_name (i := 0) (show (["_law_term_here", "_law_shares"] : List Str).Nodup by decide +kernel) rfl (Or.inl rfl)) (fun _ _ _ _ _ => pts_nil)
        (fun _ _ _ _ _ => pe_tup (pa_cons (pv 0) (pa_cons (pe_ixR (P := P) (w := w) (K := K) rfl rfl rfl hu30 (pv 1) (pv 0) (fun _ _ => rfl)) pa_nil)))) pa_nil)) pa_nil)) (pa_cons (pv 6) pa_nil))))))))))))), ?_⟩
  have h1 : (1 : Nat) ≤ sizeLine := by decide
  have h2 : (2 : Nat) ≤ sizeLine := by decide
  have h3 : (3 : Nat) ≤ sizeLine := by decide
  have hLb : (20000 : Nat) ≤ sizeLine := by decide +kernel
  refine ⟨_, rfl, _, rfl, a, ns, kk, 5, rfl, hS, h63, k0, by omega, by decide, fun y _ _ => ?_⟩
  refine ⟨_, rfl, rfl, _, rfl, ?_⟩
  refine ite2 (fun _ => ?_) (fun _ => ?_)
  · intro L ws H1 s1 _ hL hT
    refine ⟨_, rfl, _, rfl, _, _, rfl, rfl, a, ns, kk + 1, 3, rfl, SqL.same s1 hS, h63, by omega, by omega, by decide, fun r r0 r3 => ?_⟩
    obtain ⟨v, t, ev, mt, hv⟩ := pick hT r0 r3
    refine ⟨L, _, r, v, rfl, rfl, SqL.of hL, ev, h2, fun q nq => ?_⟩
    have sq := same_upd (o := .tup [.str (Str.ofString "flag"), v]) nq
    have fin : ∀ x : Str, t = .str x → Nm x → Q (.ref q) (upd H1 q (.tup [.str (Str.ofString "flag"), v])) := fun x e hx => by
      subst e
      exact k (.ref q) (.tup [s_ "flag", .str x]) (Dec.cl x) _ (s1.trans sq) (at_tup upd_same (.cons at_str (.cons (hv.mono (Kd.of_same sq)) .nil))) fun n => ⟨.fl n x hx.le, .fl x hx⟩
    simp only [List.mem_cons, List.not_mem_nil, or_false] at mt
    rcases mt with rfl | rfl | rfl
    · exact fin _ rfl nm_p
    · exact fin _ rfl nm_q
    · exact fin _ rfl nm_a
  refine ⟨_, rfl, _, _, rfl, rfl, _, rfl, ?_⟩
  refine ite2 (fun _ => ?_) (fun _ => ?_)
  · refine ⟨_, rfl, _, rfl, _, _, rfl, rfl, a, ns, kk + 2, rfl, hS, h63, by omega, by omega, fun v1 t1 H1 s1 hv1 z1 => ?_⟩
    refine ⟨_, rfl, _, rfl, _, _, rfl, rfl, a, ns, kk + 4, rfl, SqL.same s1 hS, h63, by omega, by omega, fun v2 t2 H2 s2 hv2 z2 => ?_⟩
    refine ⟨h3, fun q nq => ?_⟩
    have sq := same_upd (o := .tup [.str (Str.ofString "like"), v1, v2]) nq
    exact k (.ref q) (.tup [s_ "like", t1, t2]) _ _ (s1.trans (s2.trans sq)) (at_tup upd_same (.cons at_str (.cons (hv1.mono (Kd.of_same (s2.trans sq))) (.cons (hv2.mono (Kd.of_same sq)) .nil)))) fun n => ⟨.li n t1 t2 z1.tb z2.tb, .li t1 t2 z1.lt z2.lt⟩
  intro L ws H1 s1 _ hL hT
  have tz : ∀ t ∈ [Tr.tup [.str (Str.ofString "name"), .str (Str.ofString "a")], .tup [.str (Str.ofString "name"), .str (Str.ofString "b")], .tup [.str (Str.ofString "name"), .str (Str.ofString "ab")]], Tz 0 t := fun t m => by
    simp only [List.mem_cons, List.not_mem_nil, or_false] at m
    rcases m with rfl | rfl | rfl
    · exact Tz.nm nm_a 0
    · exact Tz.nm nm_b 0
    · exact Tz.nm nm_ab 0
  obtain ⟨u0, t0, e0, m0, hu0⟩ := pick hT (r := 0) (by decide) (by decide)
  obtain ⟨u1, t1, e1, m1, hu1⟩ := pick hT (r := 1) (by decide) (by decide)
  have zt0 := tz t0 m0
  have zt1 := tz t1 m1
  refine ⟨_, rfl, _, rfl, L, _, 0, u0, rfl, rfl, SqL.of hL, e0, h1, fun q1 n1 => ⟨h3, fun q2 n2 => ?_⟩⟩
  have a1 := same_upd (o := .tup [u0]) n1
  have a2 := same_upd (o := .tup [.str (Str.ofString "call"), .str (Str.ofString "f"), .ref q1]) n2
  have c1 : TrAt (upd (upd H1 q1 (.tup [u0])) q2 (.tup [.str (Str.ofString "call"), .str (Str.ofString "f"), .ref q1])) (.ref q2) (.tup [s_ "call", s_ "f", .tup [t0]]) := at_tup upd_same (.cons at_str (.cons at_str (.cons (at_tup (a2 _ _ upd_same) (.cons (hu0.mono (Kd.of_same (a1.trans a2))) .nil)) .nil)))
  have a12 := a1.trans a2
  clear a1 a2 n1 n2
  generalize upd (upd H1 q1 (.tup [u0])) q2 (.tup [.str (Str.ofString "call"), .str (Str.ofString "f"), .ref q1]) = H2 at a12 c1 ⊢
  refine ⟨_, rfl, L, _, 1, u1, rfl, rfl, SqL.of (a12 _ _ hL), e1, h1, fun q3 n3 => ⟨h3, fun q4 n4 => ?_⟩⟩
  have a3 := same_upd (o := .tup [u1]) n3
  have a4 := same_upd (o := .tup [.str (Str.ofString "call"), .str (Str.ofString "f"), .ref q3]) n4
  have c2 : TrAt (upd (upd H2 q3 (.tup [u1])) q4 (.tup [.str (Str.ofString "call"), .str (Str.ofString "f"), .ref q3])) (.ref q4) (.tup [s_ "call", s_ "f", .tup [t1]]) := at_tup upd_same (.cons at_str (.cons at_str (.cons (at_tup (a4 _ _ upd_same) (.cons (hu1.mono (Kd.of_same (a12.trans (a3.trans a4)))) .nil)) .nil)))
  have a34 := a3.trans a4
  clear a3 a4 n3 n4
  generalize upd (upd H2 q3 (.tup [u1])) q4 (.tup [.str (Str.ofString "call"), .str (Str.ofString "f"), .ref q3]) = H3 at a34 c2 ⊢
  refine ⟨h2, fun L2 nL2 => ?_⟩
  have a5 := same_upd (o := .lst [.ref q2, .ref q4]) nL2
  have wl := hT.len
  refine ⟨L, L2, ws, _, rfl, rfl, a5 _ _ (a34 _ _ (a12 _ _ hL)), upd_same, by rw [wl]; show 3 + 2 ≤ sizeLine; omega, fun p np => ?_⟩
  have a6 := same_upd (o := .lst (ws ++ [.ref q2, .ref q4])) np
  have hp := upd_same (H := upd H3 L2 (.lst [.ref q2, .ref q4])) (a := p) (o := .lst (ws ++ [.ref q2, .ref q4]))
  have hTp := TrsAt.app (.cons (c1.mono (Kd.of_same (a34.trans (a5.trans a6)))) (.cons (c2.mono (Kd.of_same (a5.trans a6))) .nil)) (hT.mono (Kd.of_same (a12.trans (a34.trans (a5.trans a6)))))
  have sp := s1.trans (a12.trans (a34.trans (a5.trans a6)))
  generalize upd (upd H3 L2 (.lst [.ref q2, .ref q4])) p (.lst (ws ++ [.ref q2, .ref q4])) = H4 at hp hTp sp ⊢
  have tz5 : ∀ t ∈ [Tr.tup [.str (Str.ofString "name"), .str (Str.ofString "a")], .tup [.str (Str.ofString "name"), .str (Str.ofString "b")], .tup [.str (Str.ofString "name"), .str (Str.ofString "ab")]] ++ [.tup [s_ "call", s_ "f", .tup [t0]], .tup [s_ "call", s_ "f", .tup [t1]]], Tz 2 t := fun t m => by
    rcases List.mem_append.mp m with m | m
    · exact (tz t m).mono (by decide)
    · simp only [List.mem_cons, List.not_mem_nil, or_false] at m
      rcases m with rfl | rfl
      · exact (Tz.ap (d := 0) nm_f (by simp) (by simp) fun u mu => by rw [List.mem_singleton.mp mu]; exact zt0).mono (by decide)
      · exact (Tz.ap (d := 0) nm_f (by simp) (by simp) fun u mu => by rw [List.mem_singleton.mp mu]; exact zt1).mono (by decide)
  clear a5 a6 a12 a34 c1 c2 hu0 hu1 e0 e1 m0 m1 hT hL np nL2
  intro D nD
  have s5 : Same H4 (upd H4 D (dJ P w D [])) := same_upd nD
  have d0 : DAt P w K (upd H4 D (dJ P w D [])) D [] (fun _ => zero) := ⟨⟨[], ⟨upd_same, fun p m => (by cases m)⟩, .nil⟩, fun t m => (by cases m), List.nodup_nil⟩
  refine ⟨_, rfl, _, rfl, _, _, rfl, rfl, a, ns, kk + 6, 3, rfl, SqL.same (sp.trans s5) hS, h63, by omega, by omega, by decide, fun r r0 r3 => ?_⟩
  refine ⟨_, _, rfl, rfl, _, rfl, by omega, by omega, ?_⟩
  obtain ⟨j, ej⟩ : ∃ j : Nat, (1 + r).toNat = j := ⟨_, rfl⟩
  have jm : j ≤ 3 := by omega
  rw [ej]
  refine for_range (n := j) (fun i σ H' => Same H4 H' ∧ ∃ (ks : List Tr) (g : Tr → Fr) (v5 : Option V), σ = [some (.ref a), some (.int kk), some (.int y), some (.ref p), some (.ref D), v5, none] ∧ DAt P w K H' D ks g ∧ ks.length ≤ i ∧ ∀ t ∈ ks, Tz 2 t ∧ Gf 200 (g t))
    ⟨s5, [], _, none, rfl, d0, Nat.le_refl _, fun t m => by cases m⟩ ?_ ?_
  · rintro i σ H5 hi ⟨sH, ks, g, v5, rfl, hD, hkl, hkz⟩
    refine gname_of ?_
    dsimp only
    refine ⟨_, rfl, _, rfl, _, _, rfl, rfl, _, rfl, 2, _, rfl, rfl, .inl ⟨by decide, by decide⟩, _, _, rfl, rfl, a, ns, _, rfl, SqL.same (sp.trans sH) hS, h63, by omega, by omega, fun vf fr H6 s6 hvf gf => ?_⟩
    refine ⟨_, rfl, _, rfl, _, rfl, _, rfl, _, _, rfl, rfl, _, rfl, _, _, rfl, rfl, a, ns, _, 5, rfl, SqL.same (sp.trans (sH.trans s6)) hS, h63, by omega, by omega, by decide, fun z z0 z5 => ?_⟩
    obtain ⟨v, t, ev, mt, hv⟩ := pick (hTp.mono (Kd.of_same (sH.trans s6))) z0 z5
    have zt := tz5 t mt
    obtain ⟨bt, rfl⟩ := tm_ref zt.ty hv
    have dpt : t.depth ≤ 7 := zt.tb.dep
    have hD6 := hD.same s6
    obtain ⟨kvs, dj, pr⟩ := hD6.ex
    have kl : kvs.length = ks.length := Paired.length pr
    refine ⟨p, _, z, .ref bt, rfl, rfl, SqL.of ((sH.trans s6) _ _ hp), ev, D, bt, ktL t, kvs, rfl, rfl, dj, key_tm zt.ty dpt hv, by omega, ?_⟩
    refine ⟨same_wr nD (sH.trans s6), addK ks t, setG g t fr, _, rfl, hD6.put zt.ty dpt hv hvf dj (fun _ => pr), ?_, fun u mu => ?_⟩
    · unfold addK
      split
      · omega
      · rw [List.length_append, List.length_singleton]
        omega
    · have mu' : u = t ∨ u ∈ ks := by
        unfold addK at mu
        split at mu
        · exact .inr mu
        · rcases List.mem_append.mp mu with mu | mu
          · exact .inr mu
          · exact .inl (List.mem_singleton.mp mu)
      unfold setG
      by_cases e : u = t
      · rw [if_pos e, e]
        exact ⟨zt, gf⟩
      · rw [if_neg e]
        rcases mu' with q | q
        · exact absurd q e
        · exact hkz u q
  rintro σ H5 ⟨sH, ks, g, v5, rfl, hD, hkl, hkz⟩
  intro LB wb H6 s6 _ hLB hTB
  refine ⟨_, rfl, _, rfl, _, _, rfl, rfl, a, ns, kk + 16, 6, rfl, SqL.same (sp.trans (sH.trans s6)) hS, h63, by omega, by omega, by decide, fun z z0 z6 => ?_⟩
  obtain ⟨vb, tb, ev, mb, hvb⟩ := pick hTB z0 z6
  refine ⟨LB, _, z, vb, rfl, rfl, SqL.of hLB, ev, ?_⟩
  obtain ⟨fb, gfb, rfl⟩ : ∃ fb : Fr, Gf 200 fb ∧ tb = frT fb := by
    simp only [List.mem_cons, List.not_mem_nil, or_false] at mb
    rcases mb with rfl | rfl | rfl | rfl | rfl | rfl
    · exact ⟨(0, 1), gf_i (by decide) (by decide) (by decide), rfl⟩
    · exact ⟨(1, 1), gf_i (by decide) (by decide) (by decide), rfl⟩
    · exact ⟨(-1, 1), gf_i (by decide) (by decide) (by decide), rfl⟩
    · exact ⟨(1, 2), gf_i (by decide) (by decide) (by decide), rfl⟩
    · exact ⟨(-3, 1), gf_i (by decide) (by decide) (by decide), rfl⟩
    · exact ⟨(5, 1), gf_i (by decide) (by decide) (by decide), rfl⟩
  have hD6 := hD.same s6
  obtain ⟨kvs, dj, pr⟩ := hD6.ex
  have kl : kvs.length = ks.length := Paired.length pr
  have hK6 := en_keys pr
  have tyk : ∀ t ∈ ks, Ty .tm t := fun t m => (hkz t m).1.ty
  refine gname_of ?_
  dsimp only
  refine tret_tc ?_
  refine tcons_cb2 ?_
  refine tcb1 ?_
  refine tcomp_of rfl ?_
  refine ⟨_, rfl, D, kvs, rfl, dj, fun o D2 nD2 => ?_⟩
  have k7 : Kd H6 (upd H6 D (.frz o (dJ P w D kvs))) := Kd.updJ dj.at_
  have f7 : (upd H6 D (.frz o (dJ P w D kvs))) D = some (.frz o (dJ P w D kvs)) := upd_same
  have s7 : Same H4 (upd H6 D (.frz o (dJ P w D kvs))) := same_wr nD (sH.trans s6)
  generalize upd H6 D (.frz o (dJ P w D kvs)) = H7 at k7 f7 s7 nD2 ⊢
  have lm : (kvs.map fun e => V.ref e.2.1).length = ks.length := by rw [List.length_map, kl]
  have hvb7 := hvb.mono k7
  refine comp_dict (fun i acc H' => Same H7 H' ∧ H' D2 = some (.lst acc) ∧ TrsAt H' acc ((ks.take i).map fun t => prT (t, g t))) ⟨same_upd nD2, upd_same, by rw [List.take_zero]; exact .nil⟩ (fun i acc H' q => q.1 _ _ f7) ?_ ?_
  · rintro i x acc H8 hi ex ⟨s8, hD2, hA⟩
    have k8 := k7.trans (Kd.of_same s8)
    obtain ⟨t, et, ht⟩ := (hK6.mono k8).get' ex
    have mt := List.mem_of_getElem? et
    have zt := (hkz t mt).1
    obtain ⟨b, rfl⟩ := tm_ref zt.ty ht
    obtain ⟨v, ev2, hv⟩ := (en_val (en_mono k8 pr) tyk zt.ty).1 mt
    have al := hA.len
    rw [List.length_map, List.length_take] at al
    refine ⟨_, rfl, _, rfl, _, rfl, D, b, ktL t, kvs, v, rfl, rfl, ⟨.inr ⟨o, s8 _ _ f7⟩, fun p m => (dj.keys p m).mono k8⟩, key_tm zt.ty zt.tb.dep ht, ev2, h2, fun q nq => ?_⟩
    have sq := same_upd (o := .tup [.ref b, v]) nq
    have hD4 := sq _ _ hD2
    have kd := (Kd.of_same sq).trans (Kd.upd (ys := acc ++ [.ref q]) hD4)
    have nDp : q ≠ D2 := fun z => by rw [z, hD2] at nq; cases nq
    refine CompN.mk hi (by omega) hD4 ⟨same_wr nD2 (s8.trans sq), upd_same, ?_⟩
    rw [List.take_add_one, et, List.map_append]
    exact TrsAt.app (.cons (at_pair ((upd_ne nDp).trans upd_same) (ht.mono kd) (hv.mono kd)) .nil) (hA.mono kd)
  rintro acc H8 ⟨s8, hD2, hA⟩
  rw [lm, List.take_length] at hA
  have good : ∀ u ∈ ks.map fun t => prT (t, g t), ∃ q : Pq, u = prT q ∧ (Tz 2 q.1 ∧ Gf 200 q.2) := fun u mu => by
    obtain ⟨t, mt, rfl⟩ := List.mem_map.mp mu
    exact ⟨(t, g t), rfl, hkz t mt⟩
  have typ : ∀ u ∈ ks.map fun t => prT (t, g t), Ty .pr u ∧ u.depth ≤ 30 := fun u mu => by
    obtain ⟨q, rfl, z, gq⟩ := good u mu
    refine ⟨.pr _ _ z.ty (.fr _ _), ?_⟩
    have := z.tb.dep
    unfold prT frT
    simp only [Tr.depth, Trs.depth]
    omega
  refine ⟨D2, acc, _, rfl, hD2, hA, by rw [List.length_map]; omega, fun u mu => ⟨ty_hd (.inr (typ u mu).1), ty_pure (typ u mu).1, by have := (typ u mu).2; omega⟩, fun u mu u' mu' => ty_cm 30 (typ u mu).2 (typ u mu).1 (typ u' mu').1, fun DS wS us nS pm hTs _ => ?_⟩
  have s9 := same_upd (o := .lst wS) nS
  refine ⟨DS, wS, rfl, .inl ⟨SqL.of upd_same, fun q nq => ?_⟩⟩
  have s10 := same_upd (o := .tup wS) nq
  refine ⟨_, rfl, h3, fun q2 nq2 => ?_⟩
  have s11 := same_upd (o := .tup [.str (Str.ofString "most"), .ref q, vb]) nq2
  obtain ⟨ps, eus, pl, hps⟩ := prs_of (us := us) fun u mu => good u (pm.mem_iff.mp mu)
  have ul := pm.length_eq
  rw [List.length_map] at ul
  have sE := s7.trans (s8.trans (s9.trans (s10.trans s11)))
  have kE := Kd.of_same (s9.trans (s10.trans s11))
  subst eus
  refine k (.ref q2) (.tup [s_ "most", .tup (ps.map prT), frT fb]) _ _ (sp.trans sE) (at_tup upd_same (.cons at_str (.cons (at_tup (s11 _ _ upd_same) (hTs.mono kE)) (.cons (hvb7.mono (Kd.of_same (s8.trans (s9.trans (s10.trans s11))))) .nil)))) fun n => ⟨.mo n ps fb (by omega) (fun q m => ⟨(hps q m).1.tb, (hps q m).2⟩) gfb, .mo ps fb fun q m => (hps q m).1.lt⟩
end
end K77
set_option Elab.async false
set_option linter.all false
set_option maxRecDepth 100000
set_option maxHeartbeats 4000000
namespace K77
open PySem L2 Mth Tre Wd Su Dj Tw
def WsAt (H : Hp) (l : Addr) (n : Nat) (ts : List Tr) : Prop := ∃ ws, H l = some (.lst ws) ∧ TrsAt H ws ts ∧ ∀ t ∈ ts, ∃ c, Wy n t c
def AsAt (H : Hp) (l : Addr) (ts : List Tr) : Prop := ∃ ws, H l = some (.lst ws) ∧ TrsAt H ws ts ∧ 0 < ts.length ∧ ts.length ≤ 10 ∧ ∀ t ∈ ts, ∃ c, ∀ n, Wy n t c
theorem AsAt.same {H H' : Hp} {l : Addr} {ts : List Tr} (h : AsAt H l ts) (s : Same H H') : AsAt H' l ts := by
  obtain ⟨ws, h1, h2, r⟩ := h
  exact ⟨ws, s _ _ h1, h2.mono (Kd.of_same s), r⟩
section
variable {P : Program} {w : World} {K : PySem.W.Frag} {mg : Str → Option Value} {base : Heap}
def spWish (K : PySem.W.Frag) (n : Nat) : Sp := fun vs H Q _ => ∃ (a l : Addr) (ns : List Int) (kk : Int) (d : Nat) (ts : List Tr), vs = [.ref a, .int kk, .int (d : Int), .ref l] ∧ SqL K H a (ns.map V.int) ∧ ns.length ≤ 63 ∧ 0 ≤ kk ∧ kk + 1000 * d ≤ 50000 ∧ d < n ∧ AsAt H l ts ∧
  ∀ v t c H', Same H H' → TrAt H' v t → Wy d t c → Q v H'
theorem scWi : FnScope ["_law_script", "_law_k", "_law_deep", "_law_atoms", "_law_way", "_law_some"] ["_law_script", "_law_k", "_law_deep", "_law_atoms"] (defScope sWish) := ⟨rfl, rfl, rfl, by decide +kernel, rfl, by decide +kernel, by decide +kernel⟩
theorem ok_wish {f fD : Addr} {fd dD : FuncData} (F : Fun K "_law_wish" "_law_wish" sWish f fd) (bF : Binds K fd ["_law_script", "_law_k", "_law_deep", "_law_atoms"] []) (mF : mg "_law_wish" = some (.ref f)) (B : Blt mg)
    (gD : FnOk P w K mg base CX0 1 fD dD ["_law_script", "_law_k", "_law_many"] (spDraw K)) (kD : PySem.W.keepIn K (.ref fD) = true) (bD : Binds K dD ["_law_script", "_law_k", "_law_many"] []) (mD : mg "_law_draw" = some (.ref fD)) :
    ∀ n, FnOk P w K mg base CX0 (n + 2) f fd ["_law_script", "_law_k", "_law_deep", "_law_atoms"] (spWish K n) := by
  intro n
  induction n with
  | zero => exact ⟨fun vs H Q E ⟨_, _, _, _, _, _, _, _, _, _, _, h, _⟩ => absurd h (by omega), fun A outer s H args us vs Q E _ _ _ _ ⟨_, _, _, _, _, _, _, _, _, _, _, h, _⟩ => absurd h (by omega)⟩
  | succ n ih =>
    refine F.ok scWi (fun vs H Q E h => ?_) (fun cdv A outer s H vs Q E hr h => ?_)
    · obtain ⟨a, l, ns, kk, d, ts, rfl, _⟩ := h
      rfl
    obtain ⟨a, l, ns, kk, d, ts, rfl, hS, h63, k0, k5, hd, hA, k⟩ := h
    have hr1 : Room 1 _ := hr.mono (by omega)
    refine ⟨_, pss_cons (ps_set (i := 4) scWi.nd rfl (Or.inl rfl) (pe_call gD hr1 rfl mD kD bD .nil pass0 (pa_cons (pv 0) (pa_cons (pv 1) (pa_cons pe_int pa_nil)))))
      (pss_cons (ps_if (PW.pt (pw_or (pt_cmpR op_eq (pv 2) pe_int (nomark _)) (pw_or1 (pt_cmpR op_lt (pv 4) pe_int (nomark _)))))
        (pss_one (ps_ret (pe_ix ix_list (pv 3) (pe_call gD hr1 rfl mD kD bD .nil pass0 (pa_cons (pv 0) (pa_cons (pe_op op_add (pv 1) pe_int) (pa_cons (pe_callB call_len_seq rfl B.le PySem.boot_len (pa_cons (pv 3) pa_nil)) pa_nil)))) fun _ _ => rfl))) pss_nil)
      (pss_cons (ps_if (pt_cmpR op_eq (pv 4) pe_int (nomark _)) (pss_one (ps_ret (pe_tup (pa_cons pe_str (pa_cons (pe_call ih hr rfl mF F.kp bF .nil pass0 (pa_cons (pv 0) (pa_cons (pe_op op_add (pv 1) pe_int) (pa_cons (pe_op op_sub (pv 2) pe_int) (pa_cons (pv 3) pa_nil))))) pa_nil))))) pss_nil)
      (pss_cons (ps_setC (NC := ["_law_n", "_law_atoms", "_law_deep", "_law_k", "_law_script"]) (mp := [none, some 3, some 2, some 1, some 0]) (i := 5) rfl scWi.nd rfl rfl rfl (pi_range1 rfl B.ra (pa_cons (pe_call gD hr1 rfl mD kD bD .nil pass0 (pa_cons (pv 0) (pa_cons (pe_op op_add (pv 1) pe_int) (pa_cons pe_int pa_nil)))) pa_nil)) (fun _ _ _ _ _ => pg_name (i := 0) (show (["_law_n", "_law_atoms", "_law_deep", "_law_k", "_law_script"] : List Str).Nodup by decide +kernel) rfl (Or.inl rfl)) (fun _ _ _ _ _ => pts_nil)
        (fun _ _ _ _ _ => pe_call ih hr rfl mF F.kp bF .nil pass0 (pa_cons (pv 4) (pa_cons (pe_op op_add (pe_op op_add (pv 3) pe_int) (pe_op op_mul pe_int (pv 0))) (pa_cons (pe_op op_sub (pv 2) pe_int) (pa_cons (pv 1) pa_nil))))))
      (pss_one (ps_ret (pe_tup (pa_cons (pe_ix ix_list (pe_litL 9 rfl) (pe_op op_mod (pv 4) pe_int) fun _ _ => rfl) (pa_cons (pe_callTy call_tuple_of rfl B.tu PyProof.Rows.boot_tuple (pa_cons (pv 5) pa_nil)) pa_nil)))))))), ?_⟩
    have h2 : (2 : Nat) ≤ sizeLine := by decide
    have hLb : (20000 : Nat) ≤ sizeLine := by decide +kernel
    refine ⟨_, rfl, _, rfl, a, ns, kk, 7, rfl, hS, h63, k0, by omega, by decide, fun y y0 y7 => ?_⟩
    have leaf : (tRet (tOp (rIxL K) (tVar 3) (tCall (spDraw K) [] E0 (tCons (tVar 0) (tCons (tOp (rI0 fun i j => .int (i + j)) (tVar 1) (tC (.int 1))) (tCons (tCB (fun xs H Q => ∃ p ys, xs = [.ref p] ∧ (SqL K H p ys ∨ SqT K H p ys) ∧ Q (.int ys.length) H) (tCons (tVar 3) tNil)) tNil)))))) { nx := fun _ H' => Q .non H', rt := Q } [some (.ref a), some (.int kk), some (.int (d : Int)), some (.ref l), some (.int y), none] H := by
      obtain ⟨ws, hl, hT, l0, l10, hW⟩ := hA
      have wl := hT.len
      refine ⟨_, rfl, _, rfl, _, rfl, _, _, rfl, rfl, _, rfl, l, _, rfl, .inl (SqL.of hl), a, ns, kk + 1, _, rfl, hS, h63, by omega, by omega, by omega, fun r r0 rl => ?_⟩
      obtain ⟨v, t, ev, mt, hv⟩ := pick hT r0 (by omega)
      obtain ⟨c, hc⟩ := hW t mt
      exact ⟨l, _, r, v, rfl, rfl, SqL.of hl, ev, k v t c H (Same.refl H) hv (hc d)⟩
    refine ⟨_, rfl, rfl, _, rfl, ?_⟩
    refine ite2 (fun _ => leaf) (fun hd0 => ?_)
    have d0 : d ≠ 0 := fun z => hd0 (by rw [z]; decide)
    obtain ⟨e, rfl⟩ : ∃ e, d = e + 1 := ⟨d - 1, by omega⟩
    have ee : ((e + 1 : Nat) : Int) - 1 = (e : Int) := by omega
    refine ⟨_, rfl, _, _, rfl, rfl, _, rfl, ?_⟩
    refine ite2 (fun _ => leaf) (fun _ => ?_)
    refine ⟨_, rfl, rfl, _, rfl, ?_⟩
    refine ite2 (fun _ => ?_) (fun _ => ?_)
    · refine ⟨_, rfl, _, rfl, _, _, rfl, rfl, _, rfl, _, _, rfl, rfl, _, rfl, a, l, ns, kk + 3, e, ts, ?_, hS, h63, by omega, by omega, by omega, hA, fun v t c H1 s1 hv hw => ?_⟩
      · show [V.ref a, .int (kk + 3), .int (((e + 1 : Nat) : Int) - 1), .ref l] = _
        rw [ee]
      refine ⟨h2, fun q nq => ?_⟩
      have sq := same_upd (o := .tup [.str (Str.ofString "not"), v]) nq
      exact k (.ref q) (.tup [s_ "not", t]) _ _ (s1.trans sq) (at_tup upd_same (.cons at_str (.cons (hv.mono (Kd.of_same sq)) .nil))) ⟨.no e t c hw.wx, .no t hw.lw⟩
    refine tnx_of ?_
    dsimp only
    refine tset_of rfl ?_
    refine ⟨_, rfl, _, rfl, _, _, rfl, rfl, a, ns, kk + 2, 4, rfl, hS, h63, by omega, by omega, by decide, fun r r0 r4 => ?_⟩
    refine ⟨r, rfl, by omega, by omega, fun D nD => ?_⟩
    obtain ⟨j, ej⟩ : ∃ j : Nat, r.toNat = j := ⟨_, rfl⟩
    have jm : j ≤ 3 := by omega
    rw [ej]
    refine comp_range (n := j) (fun i acc H' => Same H H' ∧ H' D = some (.lst acc) ∧ ∃ ps : List (Tr × List Nat), TrsAt H' acc (ps.map (·.1)) ∧ ps.length = i ∧ ∀ p ∈ ps, Wy e p.1 p.2) ⟨same_upd nD, upd_same, [], .nil, rfl, fun p m => by cases m⟩ ?_ ?_
    · rintro i acc H1 hi ⟨s1, hD, ps, hT, hl, hw⟩
      refine ⟨_, rfl, _, rfl, _, _, rfl, rfl, _, rfl, 20, _, rfl, rfl, .inl ⟨by decide, by decide⟩, _, _, rfl, rfl, _, rfl, _, _, rfl, rfl, _, rfl, a, l, ns, kk + 3 + 20 * (0 + (i : Int)), e, ts, ?_, SqL.same s1 hS, h63, ?_, ?_, by omega, hA.same s1, fun v t c H2 s2 hv hw2 => ?_⟩
      · show [V.ref a, .int (kk + 3 + 20 * (0 + (i : Int))), .int (((e + 1 : Nat) : Int) - 1), .ref l] = _
        rw [ee]
      · omega
      · omega
      have hD2 := s2 _ _ hD
      have tp := Kd.upd (ys := acc ++ [v]) hD2
      have al := hT.len
      rw [List.length_map] at al
      refine CompN.mk hi (by omega) hD2 ⟨same_wr nD (s1.trans s2), upd_same, ps ++ [(t, c)], ?_, by simp [hl], fun p m => ?_⟩
      · rw [List.map_append]
        exact TrsAt.app (.cons (hv.mono tp) .nil) (hT.mono ((Kd.of_same s2).trans tp))
      · rcases List.mem_append.mp m with m | m
        · exact hw p m
        · rw [List.mem_singleton.mp m]
          exact hw2
    · rintro acc H1 ⟨s1, hD, ps, hT, hl, hw⟩
      refine gname_of ?_
      try dsimp only
      intro L wl H2 s2 _ hL hTL
      have m0 : (0 : Int) ≤ y % 2 := Int.emod_nonneg _ (by decide)
      have m1 : y % 2 < 2 := Int.emod_lt_of_pos _ (by decide)
      refine ⟨_, rfl, y, 2, rfl, rfl, (by show (0 : Int) < 2; decide), ?_⟩
      obtain ⟨v, t, ev, mt, hv⟩ := pick hTL m0 m1
      refine ⟨L, _, y % 2, v, rfl, rfl, SqL.of hL, ev, ?_⟩
      refine ⟨_, rfl, D, acc, rfl, .inl ⟨SqL.of (s2 _ _ hD), fun q nq => ?_⟩⟩
      have s3 := same_upd (o := .tup acc) nq
      refine ⟨h2, fun q2 nq2 => ?_⟩
      have s4 := same_upd (o := .tup [v, .ref q]) nq2
      have hT4 := hT.mono (Kd.of_same (s2.trans (s3.trans s4)))
      have hv4 := hv.mono (Kd.of_same (s3.trans s4))
      have hx : ∀ p ∈ ps, Wx e p.1 p.2 := fun p m => (hw p m).wx
      have hlw : ∀ u ∈ ps.map (·.1), Lw u := fun u m => by
        obtain ⟨p, mp, rfl⟩ := List.mem_map.mp m
        exact (hw p mp).lw
      have hq := at_tup (s4 _ _ upd_same) hT4
      simp only [List.mem_cons, List.not_mem_nil, or_false] at mt
      rcases mt with rfl | rfl
      · exact k (.ref q2) (.tup [s_ "both", .tup (ps.map (·.1))]) _ _ (s1.trans (s2.trans (s3.trans s4))) (at_tup upd_same (.cons hv4 (.cons hq .nil))) ⟨.bo e ps (by omega) hx, .bo _ hlw⟩
      · exact k (.ref q2) (.tup [s_ "either", .tup (ps.map (·.1))]) _ _ (s1.trans (s2.trans (s3.trans s4))) (at_tup upd_same (.cons hv4 (.cons hq .nil))) ⟨.ei e ps (by omega) hx, .ei _ hlw⟩
def spWishes (K : PySem.W.Frag) : Sp := fun vs H Q _ => ∃ (a : Addr) (ns : List Int) (b : Int), vs = [.ref a, .int b] ∧ SqL K H a (ns.map V.int) ∧ ns.length ≤ 63 ∧ 0 ≤ b ∧ b ≤ 1000 ∧
  ∀ l H' ts, Same H H' → H l = none → WsAt H' l 2 ts → ts.length ≤ 5 → Q (.ref l) H'
theorem scWs : FnScope ["_law_script", "_law_base", "_law_atoms", "_law_many"] ["_law_script", "_law_base"] (defScope sWishes) := ⟨rfl, rfl, rfl, by decide +kernel, rfl, by decide +kernel, by decide +kernel⟩
theorem ok_wishes {f fD fA fW : Addr} {fd dD dA dW : FuncData} (F : Fun K "_law_wishes" "_law_wishes" sWishes f fd) (B : Blt mg)
    (gD : FnOk P w K mg base CX0 1 fD dD ["_law_script", "_law_k", "_law_many"] (spDraw K)) (kD : PySem.W.keepIn K (.ref fD) = true) (bD : Binds K dD ["_law_script", "_law_k", "_law_many"] []) (mD : mg "_law_draw" = some (.ref fD))
    (gA : FnOk P w K mg base CX0 3 fA dA ["_law_script", "_law_k"] (spAtom K)) (kA : PySem.W.keepIn K (.ref fA) = true) (bA : Binds K dA ["_law_script", "_law_k"] []) (mA : mg "_law_atom" = some (.ref fA))
    (gW : FnOk P w K mg base CX0 5 fW dW ["_law_script", "_law_k", "_law_deep", "_law_atoms"] (spWish K 3)) (kW : PySem.W.keepIn K (.ref fW) = true) (bW : Binds K dW ["_law_script", "_law_k", "_law_deep", "_law_atoms"] []) (mW : mg "_law_wish" = some (.ref fW)) : FnOk P w K mg base CX0 6 f fd ["_law_script", "_law_base"] (spWishes K) := by
  refine F.ok scWs (fun vs H Q E h => ?_) (fun cdv A outer s H vs Q E hr h => ?_)
  · obtain ⟨a, ns, b, rfl, _⟩ := h
    rfl
  obtain ⟨a, ns, b, rfl, hS, h63, b0, b1, k⟩ := h
  have hr1 : Room 1 _ := hr.mono (by decide)
  have hr3 : Room 3 _ := hr.mono (by decide)
  refine ⟨_, pss_cons (ps_set (i := 2) scWs.nd rfl (Or.inr rfl) (pe_comp (NC := ["_law_n", "_law_base", "_law_script"]) (mp := [none, some 1, some 0]) rfl (pi_range1 rfl B.ra (pa_cons (pe_op op_add pe_int (pe_call gD hr1 rfl mD kD bD .nil pass0 (pa_cons (pv 0) (pa_cons pe_int (pa_cons pe_int pa_nil))))) pa_nil)) (fun _ _ _ _ _ => pg_name (i := 0) (show (["_law_n", "_law_base", "_law_script"] : List Str).Nodup by decide +kernel) rfl (Or.inl rfl)) (fun _ _ _ _ _ => pts_nil)
      (fun _ _ _ _ _ => pe_call gA hr3 rfl mA kA bA .nil pass0 (pa_cons (pv 2) (pa_cons (pe_op op_add (pv 1) (pe_op op_mul pe_int (pv 0))) pa_nil)))))
    (pss_cons (ps_set (i := 3) scWs.nd rfl (Or.inl rfl) (pe_call gD hr1 rfl mD kD bD .nil pass0 (pa_cons (pv 0) (pa_cons pe_int (pa_cons pe_int pa_nil)))))
    (pss_one (ps_ret (pe_comp (NC := ["_law_n", "_law_atoms", "_law_base", "_law_script"]) (mp := [none, some 2, some 1, some 0]) rfl (pi_range1 rfl B.ra (pa_cons (pv 3) pa_nil)) (fun _ _ _ _ _ => pg_name (i := 0) (show (["_law_n", "_law_atoms", "_law_base", "_law_script"] : List Str).Nodup by decide +kernel) rfl (Or.inl rfl)) (fun _ _ _ _ _ => pts_nil)
      (fun _ _ _ _ _ => pe_call gW hr rfl mW kW bW .nil pass0 (pa_cons (pv 3) (pa_cons (pe_op op_add (pe_op op_add (pv 2) pe_int) (pe_op op_mul pe_int (pv 0))) (pa_cons pe_int (pa_cons (pv 1) pa_nil))))))))), ?_⟩
  have hLb : (20000 : Nat) ≤ sizeLine := by decide +kernel
  refine tset_of rfl ?_
  refine ⟨_, rfl, a, ns, 2, 6, rfl, hS, h63, by decide, by decide, by decide, fun r r0 r6 => ?_⟩
  refine ⟨_, _, rfl, rfl, _, rfl, by omega, by omega, fun D nD => ?_⟩
  obtain ⟨j, ej⟩ : ∃ j : Nat, (2 + r).toNat = j := ⟨_, rfl⟩
  have jm : j ≤ 7 ∧ 2 ≤ j := by omega
  rw [ej]
  refine comp_range (n := j) (fun i acc H' => Same H H' ∧ H' D = some (.lst acc) ∧ ∃ ts : List Tr, TrsAt H' acc ts ∧ ts.length = i ∧ ∀ t ∈ ts, ∃ c, ∀ n, Wy n t c) ⟨same_upd nD, upd_same, [], .nil, rfl, fun p m => by cases m⟩ ?_ ?_
  · rintro i acc H1 hi ⟨s1, hD, ts, hT, hl, hw⟩
    refine ⟨_, rfl, _, rfl, _, rfl, 20, _, rfl, rfl, .inl ⟨by decide, by decide⟩, _, _, rfl, rfl, a, ns, _, rfl, SqL.same s1 hS, h63, by omega, by omega, fun v t c H2 s2 hv hw2 => ?_⟩
    have hD2 := s2 _ _ hD
    have tp := Kd.upd (ys := acc ++ [v]) hD2
    have al := hT.len
    refine CompN.mk hi (by omega) hD2 ⟨same_wr nD (s1.trans s2), upd_same, ts ++ [t], TrsAt.app (.cons (hv.mono tp) .nil) (hT.mono ((Kd.of_same s2).trans tp)), by simp [hl], fun u m => ?_⟩
    rcases List.mem_append.mp m with m | m
    · exact hw u m
    · rw [List.mem_singleton.mp m]
      exact ⟨c, hw2⟩
  rintro acc H1 ⟨s1, hD, ts, hT, hl, hw⟩
  have hA : AsAt H1 D ts := ⟨acc, hD, hT, by omega, by omega, hw⟩
  refine gname_of ?_
  try dsimp only
  refine ⟨_, rfl, a, ns, 3, 6, rfl, SqL.same s1 hS, h63, by decide, by decide, by decide, fun m m0 m6 => ?_⟩
  refine gname_of ?_
  try dsimp only
  refine tret_of ?_
  refine tcomp_of rfl ?_
  refine ⟨_, rfl, m, rfl, by omega, by omega, fun D2 nD2 => ?_⟩
  obtain ⟨g, eg⟩ : ∃ g : Nat, m.toNat = g := ⟨_, rfl⟩
  have gm : g ≤ 5 := by omega
  rw [eg]
  have nD20 : H D2 = none := by
    cases e : H D2 with
    | none => rfl
    | some o => rw [s1 _ _ e] at nD2; cases nD2
  refine comp_range (n := g) (fun i acc H' => Same H1 H' ∧ H' D2 = some (.lst acc) ∧ ∃ us : List Tr, TrsAt H' acc us ∧ us.length = i ∧ ∀ t ∈ us, ∃ c, Wy 2 t c) ⟨same_upd nD2, upd_same, [], .nil, rfl, fun p m => by cases m⟩ ?_ ?_
  · rintro i acc2 H2 hi ⟨s2, hD2, us, hU, hul, huw⟩
    refine ⟨_, rfl, _, rfl, _, _, rfl, rfl, _, rfl, 70, _, rfl, rfl, .inl ⟨by decide, by decide⟩, _, _, rfl, rfl, _, rfl, a, D, ns, _, 2, ts, rfl, SqL.same (s1.trans s2) hS, h63, by omega, by omega, by decide, hA.same s2, fun v t c H3 s3 hv hw2 => ?_⟩
    have hD3 := s3 _ _ hD2
    have tp := Kd.upd (ys := acc2 ++ [v]) hD3
    have al := hU.len
    refine CompN.mk hi (by omega) hD3 ⟨same_wr nD2 (s2.trans s3), upd_same, us ++ [t], TrsAt.app (.cons (hv.mono tp) .nil) (hU.mono ((Kd.of_same s3).trans tp)), by simp [hul], fun u m => ?_⟩
    rcases List.mem_append.mp m with m | m
    · exact huw u m
    · rw [List.mem_singleton.mp m]
      exact ⟨c, hw2⟩
  · rintro acc2 H2 ⟨s2, hD2, us, hU, hul, huw⟩
    exact k D2 H2 us (s1.trans s2) nD20 ⟨acc2, hD2, hU, huw⟩ (by omega)
end
end K77
set_option Elab.async false
set_option linter.all false
set_option maxRecDepth 100000
set_option maxHeartbeats 4000000
namespace K77
open PySem L2 Mth Tre Wd Su Tw
def isBE : Tr → Bool
  | .tup (.str k :: _) => decide (k = "both" ∨ k = "either")
  | _ => false
noncomputable def bes (t : Tr) : List Tr := (Fs.firsts [] (allN 2 t)).filter isBE
noncomputable def things (ts : List Tr) : List Tr := Fs.firsts [] (ts.flatMap bes)
theorem wk_head {t : Tr} (h : Wk t) : ∃ kk r, t = .tup (.str kk :: r) := by
  obtain ⟨n, c, _, hw⟩ := h
  obtain ⟨l, hk, _⟩ := wy_kn hw
  cases hk with
  | at_ n kk r _ => exact ⟨kk, r, rfl⟩
  | no n t => exact ⟨_, _, rfl⟩
  | be n kk l _ _ => exact ⟨kk, _, rfl⟩
theorem part_wk {t : Tr} {c : List Nat} (h : Wy 2 t c) : ∀ u ∈ Fs.firsts [] (allN 2 t), Wk u := fun u m => by
  rcases Fs.mem_fst.mp m with q | q
  · cases q
  · exact all_wk h (by decide) u q
theorem part_len {t : Tr} {c : List Nat} (h : Wy 2 t c) : (Fs.firsts [] (allN 2 t)).length ≤ 16 := by
  have h1 := all_len h
  have h2 := Fs.firsts_len (allN 2 t) []
  rw [List.length_nil] at h2
  have e16 : 4 ^ 2 = 16 := by decide
  omega
theorem bes_len : ∀ {ts : List Tr}, (∀ t ∈ ts, ∃ c, Wy 2 t c) → (ts.flatMap bes).length ≤ ts.length * 16
  | [], _ => by simp
  | t :: ts, h => by
    obtain ⟨c, hc⟩ := h t List.mem_cons_self
    have h1 := part_len hc
    have h2 := bes_len fun u m => h u (List.mem_cons_of_mem _ m)
    have h3 : (bes t).length ≤ (Fs.firsts [] (allN 2 t)).length := List.length_filter_le _ _
    rw [List.flatMap_cons, List.length_append, List.length_cons, Nat.succ_mul]
    omega
theorem bes_take {ts : List Tr} {i : Nat} {t : Tr} (e : ts[i]? = some t) : (ts.take (i + 1)).flatMap bes = (ts.take i).flatMap bes ++ bes t := by
  rw [List.take_add_one, e, List.flatMap_append]
  simp
theorem bes_take_le (l : List Tr) (i : Nat) : ((l.take i).flatMap bes).length ≤ (l.flatMap bes).length := by
  have : l.flatMap bes = (l.take i).flatMap bes ++ (l.drop i).flatMap bes := by rw [← List.flatMap_append, List.take_append_drop]
  rw [this, List.length_append]
  omega
section
variable {P : Program} {w : World} {K : PySem.W.Frag} {mg : Str → Option Value} {base : Heap}
def spOt : Sp := fun vs H Q _ => ∃ (l : Addr) (ts : List Tr), vs = [.ref l] ∧ WsAt H l 2 ts ∧ ts.length ≤ 5 ∧ ∀ r H' ws, H r = none → Same H H' → H' r = some (.lst ws) → TrsAt H' ws (things ts) → (∀ t ∈ things ts, Wk t ∧ isBE t = true) → (things ts).length ≤ 80 → Q (.ref r) H'
theorem scOt : FnScope ["wishes", "found", "wish", "part"] ["wishes"] (defScope sOt) := ⟨rfl, rfl, rfl, by decide +kernel, rfl, by decide +kernel, by decide +kernel⟩
theorem ok_ot {f fP fS : Addr} {fd dP dS : FuncData} (F : Fun K "opened_things" "opened_things" sOt f fd) (B : Blt mg)
    (GP : FnOk P w K mg base CX0 24 fP dP ["wish"] spPo) (kP : PySem.W.keepIn K (.ref fP) = true) (bP : Binds K dP ["wish"] []) (mP : mg "parts_of" = some (.ref fP))
    (GS : FnOk P w K mg base CX0 20 fS dS ["wish"] (spSw 4)) (kS : PySem.W.keepIn K (.ref fS) = true) (bS : Binds K dS ["wish"] []) (mS : mg "shown_wish" = some (.ref fS)) : FnOk P w K mg base CX0 25 f fd ["wishes"] spOt := by
  refine F.ok scOt (fun vs H Q E h => ?_) (fun cdv A outer s H vs Q E hr h => ?_)
  · obtain ⟨l, ts, rfl, _⟩ := h
    rfl
  obtain ⟨l, ts, rfl, ⟨ws, hl, hT, hW⟩, h5, k⟩ := h
  have hrS : Room 20 _ := hr.mono (by decide)
  refine ⟨_, pss_cons (ps_set (i := 1) scOt.nd rfl (Or.inl rfl) pe_dnewK)
    (pss_cons (ps_for PassesOwn.never rfl (pi_list (pv 0)) (pg_name (i := 2) scOt.nd rfl (Or.inl rfl))
      (pss_one (ps_for PassesOwn.never rfl (pi_list (pe_call GP hr rfl mP kP bP .nil pass0 (pa_cons (pv 2) pa_nil))) (pg_name (i := 3) scOt.nd rfl (Or.inl rfl))
        (pss_one (ps_if (PW.pt (pw_or (pt_cmpR op_eq (pe_ix ix_tup (pv 3) pe_int fun _ _ => rfl) pe_str (nomark _)) (pw_or1 (pt_cmpR op_eq (pe_ix ix_tup (pv 3) pe_int fun _ _ => rfl) pe_str (nomark _)))))
          (pss_one (ps_expr (pe_bm PySem.F.plainAttrs_dict PySem.F.slot_dict_setdefault PySem.F.type_dict_setdefault mt_setdefault (pv 1) (pa_cons (pe_call GS hrS rfl mS kS bS .nil pass0 (pa_cons (pv 3) pa_nil)) (pa_cons (pv 3) pa_nil))))) pss_nil)))))
    (pss_one (ps_ret (pe_callTy (call_listV rfl) rfl B.li PyProof.Rows.boot_list (pa_cons (pe_bm0 PySem.F.plainAttrs_dict PySem.F.slot_dict_values PySem.F.type_dict_values mt_values (pv 1)) pa_nil))))), ?_⟩
  have hL : (20000 : Nat) ≤ sizeLine := by decide +kernel
  have lenT := bes_len hW
  have lenT5 : ts.length * 16 ≤ 5 * 16 := Nat.mul_le_mul_right _ h5
  have lenF : ∀ i, (Fs.firsts [] ((ts.take i).flatMap bes)).length ≤ 80 := fun i => by
    have h1 := Fs.firsts_len ((ts.take i).flatMap bes) []
    have h2 := bes_take_le ts i
    rw [List.length_nil] at h1
    omega
  have wkB : ∀ u ∈ ts.flatMap bes, Wk u ∧ isBE u = true := fun u m => by
    obtain ⟨t, mt, mu⟩ := List.mem_flatMap.mp m
    obtain ⟨c, hc⟩ := hW t mt
    obtain ⟨m1, m2⟩ := List.mem_filter.mp mu
    exact ⟨part_wk hc u m1, m2⟩
  intro d nd
  have s1 : Same H (upd H d (.dK [])) := same_upd nd
  have hd1 := upd_same (H := H) (a := d) (o := .dK [])
  generalize upd H d (.dK []) = H1 at s1 hd1 ⊢
  have ldn : l ≠ d := fun z => by rw [z, nd] at hl; cases hl
  have wl := hT.len
  refine ⟨_, rfl, l, rfl, ⟨ws, SqL.of (s1 _ _ hl)⟩, ?_⟩
  refine for_list (xs := ws) (fun i σ H' => But1 d H1 H' ∧ ∃ v2 v3 kvs, σ = [some (.ref l), some (.ref d), v2, v3] ∧ H' d = some (.dK kvs) ∧ DictW H' kvs (Fs.firsts [] ((ts.take i).flatMap bes)))
    ⟨fun x o _ e => e, none, none, [], rfl, hd1, Paired.nil⟩ (fun i σ H' _ p => SqL.of (p.1 _ _ ldn (s1 _ _ hl))) ?_ ?_
  · rintro i x σ H2 ex ⟨b2, v2, v3, kvs, rfl, hd2, hD2⟩
    obtain ⟨t, et, ht⟩ := hT.get' ex
    have mt := List.mem_of_getElem? et
    obtain ⟨c, hc⟩ := hW t mt
    have kd2 : Kd H H2 := (Kd.of_same s1).trans (b2.kd hd1)
    refine gname_of ?_
    dsimp only
    refine ⟨_, rfl, x, t, c, rfl, ht.mono kd2, hc, fun r H3 ws3 nr s3 hr3 hU => ?_⟩
    have wl3 := hU.len
    have nrd : r ≠ d := fun z => by rw [z, hd2] at nr; cases nr
    have hd3 := s3 _ _ hd2
    have plen := part_len hc
    have wkU := part_wk hc
    refine ⟨r, rfl, ⟨ws3, SqL.of hr3⟩, ?_⟩
    refine for_list (xs := ws3) (fun j σ H' => But1 d H1 H' ∧ H' r = some (.lst ws3) ∧ TrsAt H' ws3 (Fs.firsts [] (allN 2 t)) ∧ ∃ v3 kvs, σ = [some (.ref l), some (.ref d), some x, v3] ∧ H' d = some (.dK kvs) ∧ DictW H' kvs (Fs.firsts (Fs.firsts [] ((ts.take i).flatMap bes)) (((Fs.firsts [] (allN 2 t)).take j).filter isBE)))
      ⟨b2.trans (But1.of_same s3), hr3, hU, v3, kvs, rfl, hd3, hD2.mono (Kd.of_same s3)⟩ (fun j σ H' _ p => SqL.of p.2.1) ?_ ?_
    · rintro j y σ H4 ey ⟨b4, hr4, hU4, v34, kvs4, rfl, hd4, hD4⟩
      obtain ⟨z, ez, hz⟩ := hU4.get' ey
      have mz := List.mem_of_getElem? ez
      have wz := wkU z mz
      obtain ⟨kk, rr, rfl⟩ := wk_head wz
      obtain ⟨r5, vs5, rfl, h51, h52⟩ := first_at hz
      obtain ⟨nz, cz, hnz, hwz⟩ := wz
      have et2 : (Fs.firsts [] (allN 2 t)).take (j + 1) = (Fs.firsts [] (allN 2 t)).take j ++ [.tup (.str kk :: rr)] := by rw [List.take_add_one, ez]; rfl
      have lenA := lenF i
      have lenB := Fs.firsts_len (((Fs.firsts [] (allN 2 t)).take j).filter isBE) (Fs.firsts [] ((ts.take i).flatMap bes))
      have lenC : (((Fs.firsts [] (allN 2 t)).take j).filter isBE).length ≤ 16 := Nat.le_trans (List.length_filter_le _ _) (by rw [List.length_take]; omega)
      refine gname_of ?_
      dsimp only
      refine ⟨_, rfl, r5, _, 0, .str kk, rfl, rfl, SqT.of h51, atI_nat (j := 0) rfl, rfl, _, rfl, ?_⟩
      by_cases be : kk = "both" ∨ kk = "either"
      · have eb : isBE (.tup (.str kk :: rr)) = true := decide_eq_true be
        have ef : ((Fs.firsts [] (allN 2 t)).take (j + 1)).filter isBE = ((Fs.firsts [] (allN 2 t)).take j).filter isBE ++ [.tup (.str kk :: rr)] := by
          rw [et2, List.filter_append, List.filter_cons, if_pos eb]
          rfl
        rw [ef]
        rcases be with be | be
        all_goals first
          | (rw [decide_eq_true (congrArg V.str be)]; refine iteT ?_; refine iteT ?_)
          | (rw [decide_eq_false (show ¬ V.str kk = V.str "both" by rw [be]; decide +kernel)]; refine iteF ?_; refine ⟨_, rfl, r5, _, 0, .str kk, rfl, rfl, SqT.of h51, atI_nat (j := 0) rfl, rfl, _, rfl, ?_⟩; rw [decide_eq_true (congrArg V.str be)]; refine iteT ?_)
        all_goals
          refine ⟨_, rfl, .inr (.inr (.inl ⟨rfl, .inl ⟨kvs4, hd4⟩⟩)), _, rfl, .ref r5, _, cz, nz, rfl, hz, hwz.wx, by omega, by omega, fun zz H5 s5 ezz => ?_⟩
          subst ezz
          have hd5 := s5 _ _ hd4
          have hD5 := hD4.mono (Kd.of_same s5)
          refine ⟨_, rfl, d, kvs4, Sum.inr zz, .ref r5, rfl, rfl, hd5, by rw [hD4.len]; omega, fun u eu => ?_, fun eu => ?_⟩
          · have mi : Tr.tup (.str kk :: rr) ∈ Fs.firsts (Fs.firsts [] ((ts.take i).flatMap bes)) (((Fs.firsts [] (allN 2 t)).take j).filter isBE) := by
              apply Classical.byContradiction
              intro mi
              rw [(hD5.none_iff hwz).mpr mi] at eu
              cases eu
            refine ⟨b4.trans (But1.of_same s5), s5 _ _ hr4, hU4.mono (Kd.of_same s5), _, kvs4, rfl, hd5, ?_⟩
            rw [Fs.firsts_app, Fs.firsts_one, Fs.add_in mi]
            exact hD5
          · have mo := (hD5.none_iff hwz).mp eu
            have kd := Dj.Kd.updK (o := .dK (kvs4 ++ [(Sum.inr zz, .ref r5)])) hd5
            refine ⟨b4.trans ((But1.of_same s5).trans fun x o nx e => by rw [upd_ne nx]; exact e), (upd_ne nrd).trans (s5 _ _ hr4), hU4.mono ((Kd.of_same s5).trans kd), _, _, rfl, upd_same, ?_⟩
            rw [Fs.firsts_app, Fs.firsts_one, Fs.add_out mo]
            exact Paired.snoc (hD5.mono kd) ⟨zz, nz, rfl, hnz, hwz, hz.mono ((Kd.of_same s5).trans kd)⟩
      · have eb : isBE (.tup (.str kk :: rr)) = false := decide_eq_false be
        have ef : ((Fs.firsts [] (allN 2 t)).take (j + 1)).filter isBE = ((Fs.firsts [] (allN 2 t)).take j).filter isBE := by
          rw [et2, List.filter_append, List.filter_cons, if_neg (by rw [eb]; exact Bool.false_ne_true)]
          simp
        rw [decide_eq_false (fun e => be (.inl (V.str.inj e)))]
        refine iteF ?_
        refine ⟨_, rfl, r5, _, 0, .str kk, rfl, rfl, SqT.of h51, atI_nat (j := 0) rfl, rfl, _, rfl, ?_⟩
        rw [decide_eq_false (fun e => be (.inr (V.str.inj e)))]
        refine iteF ?_
        refine ⟨b4, hr4, hU4, _, kvs4, rfl, hd4, ?_⟩
        rw [ef]
        exact hD4
    · rintro σ H4 ⟨b4, hr4, hU4, v34, kvs4, rfl, hd4, hD4⟩
      rw [wl3, List.take_length] at hD4
      refine ⟨b4, _, _, kvs4, rfl, hd4, ?_⟩
      rw [bes_take et, Fs.firsts_app]
      exact hD4
  · rintro σ H2 ⟨b2, v2, v3, kvs, rfl, hd2, hD2⟩
    have lenE := lenF ws.length
    rw [wl, List.take_length] at hD2 lenE
    refine ⟨_, rfl, .inr (.inr (.inl ⟨rfl, .inl ⟨kvs, hd2⟩⟩)), d, kvs, rfl, rfl, hd2, fun x nx => ?_⟩
    have s3 : Same H2 (upd H2 x (ViewV x d)) := same_upd nx
    refine ⟨x, d, kvs, rfl, upd_same, s3 _ _ hd2, fun r nr => ?_⟩
    have sH : Same H (upd (upd H2 x (ViewV x d)) r (.lst (kvs.map (·.2)))) := fun y o e => same_upd nr _ _ (s3 _ _ (b2 y o (ne_of_none e nd) (s1 _ _ e)))
    refine k r _ _ ?_ sH upd_same (hD2.vals.mono (Kd.of_same (s3.trans (same_upd nr)))) (fun t m => ?_) lenE
    · have n2 := s3.free nr
      cases e : H r with
      | none => rfl
      | some o => rw [b2 r o (ne_of_none e nd) (s1 _ _ e)] at n2; cases n2
    · rcases Fs.mem_fst.mp m with q | q
      · cases q
      · exact wkB t q
end
end K77
set_option Elab.async false
set_option linter.all false
set_option maxRecDepth 100000
set_option maxHeartbeats 4000000
namespace K77
open PySem L2 Mth Tre Wd Su Tw
def wSt (k : Nat) : Tr := .tup [s_ "wish", .int (k : Int)]
def oSt (t : Tr) (k : Nat) : Tr := .tup [s_ "open", t, .int (k : Int)]
def opS (t : Tr) : List Tr := (List.range ((kidsT t).length + 1)).map (oSt t)
def wiS (n : Nat) : List Tr := (List.range n).map wSt
noncomputable def stepsOf (ts : List Tr) : List Tr := wiS ts.length ++ (things ts).flatMap opS
theorem wk_kind {t : Tr} (h : Wk t) : ∃ kk r, t = .tup (.str kk :: r) ∧ ((kk = "not" ∨ kk = "flag" ∨ kk = "most" ∨ kk = "like") ∨ ((kk = "both" ∨ kk = "either") ∧ r = [.tup (kidsT t)] ∧ (kidsT t).length ≤ 3)) := by
  obtain ⟨n, c, _, hw⟩ := h
  obtain ⟨l, hk, _⟩ := wy_kn hw
  have e := kn_kids hk
  cases hk with
  | at_ n kk r h => exact ⟨kk, r, rfl, .inl (.inr h)⟩
  | no n t => exact ⟨_, _, rfl, .inl (.inl rfl)⟩
  | be n kk l h h3 => exact ⟨kk, _, rfl, .inr ⟨h, by rw [e], by rw [e]; exact h3⟩⟩
theorem be_kind {t : Tr} (h : Wk t) (hb : isBE t = true) : ∃ kk, t = .tup [.str kk, .tup (kidsT t)] ∧ (kidsT t).length ≤ 3 := by
  obtain ⟨kk, r, e, h | ⟨_, e2, h3⟩⟩ := wk_kind h
  · exfalso
    rw [e] at hb
    have := of_decide_eq_true hb
    rcases h with rfl | rfl | rfl | rfl <;> revert this <;> decide +kernel
  · exact ⟨kk, by rw [← e2]; exact e, h3⟩
theorem steps_mem {t : Tr} {ts : List Tr} (hk : ∀ u ∈ ts, Wk u) {n : Nat} (m : t ∈ wiS n ++ ts.flatMap opS) : (∃ k, t = wSt k) ∨ ∃ u k, t = oSt u k ∧ Wk u := by
  rcases List.mem_append.mp m with m | m
  · obtain ⟨k, _, rfl⟩ := List.mem_map.mp m
    exact .inl ⟨k, rfl⟩
  · obtain ⟨u, mu, mt⟩ := List.mem_flatMap.mp m
    obtain ⟨k, _, rfl⟩ := List.mem_map.mp mt
    exact .inr ⟨u, k, rfl, hk u mu⟩
theorem steps_pd {ts : List Tr} (hk : ∀ u ∈ ts, Wk u) (n : Nat) : Trs.pure (wiS n ++ ts.flatMap opS) ∧ Trs.depth (wiS n ++ ts.flatMap opS) ≤ 40 := by
  have h : ∀ t ∈ wiS n ++ ts.flatMap opS, t.pure ∧ t.depth ≤ 40 := fun t m => by
    rcases steps_mem hk m with ⟨k, rfl⟩ | ⟨u, k, rfl, hu⟩
    · exact ⟨by unfold wSt; simp [Tr.pure, Trs.pure], by unfold wSt; simp only [Tr.depth, Trs.depth]; omega⟩
    · have hu' := wk_ty hu
      refine ⟨?_, ?_⟩
      · unfold oSt
        simp only [Tr.pure, Trs.pure]
        exact ⟨trivial, ty_pure hu'.1, trivial, trivial⟩
      · unfold oSt
        have := hu'.2
        simp only [Tr.depth, Trs.depth]
        omega
  exact ⟨pure_all fun t m => (h t m).1, depths_le fun t m => (h t m).2⟩
theorem ops_len {ts : List Tr} (hk : ∀ t ∈ ts, Wk t ∧ isBE t = true) : (ts.flatMap opS).length ≤ ts.length * 4 := by
  induction ts with
  | nil => simp
  | cons t ts ih =>
    obtain ⟨kk, _, h3⟩ := be_kind (hk t List.mem_cons_self).1 (hk t List.mem_cons_self).2
    have := ih fun u m => hk u (List.mem_cons_of_mem _ m)
    rw [List.flatMap_cons, List.length_append, List.length_cons, Nat.succ_mul]
    have e : (opS t).length = (kidsT t).length + 1 := by unfold opS; rw [List.length_map, List.length_range]
    omega
theorem range_map_succ {β : Type} (f : Nat → β) (i : Nat) : (List.range (i + 1)).map f = (List.range i).map f ++ [f i] := by
  rw [List.range_succ, List.map_append]
  rfl
theorem opC {x : V} {t : Tr} {D : Addr} {Q : VK} {H : Hp} {m : Nat} (hm : m ≤ 10) (nD : H D = none) (hx : TrAt H x t) (hq : ∀ H' ws, Same H H' → H' D = some (.lst ws) → TrsAt H' ws ((List.range m).map (oSt t)) → Q (.ref D) H') :
    CompW (Itr 0 m) D (tTup (tCons (tC (.str (Str.ofString "open"))) (tCons (tVar 1) (tCons (tVar 0) tNil)))) [some x] Q H := by
  have hL : (20000 : Nat) ≤ sizeLine := by decide +kernel
  refine comp_range (n := m) (fun i acc H' => Same H H' ∧ H' D = some (.lst acc) ∧ TrsAt H' acc ((List.range i).map (oSt t))) ⟨same_upd nD, upd_same, .nil⟩ ?_ ?_
  · rintro i acc H1 hi ⟨s1, hD, hA⟩
    have al := hA.len
    rw [List.length_map, List.length_range] at al
    refine ⟨_, rfl, _, rfl, by show 3 ≤ sizeLine; decide, fun q nq => ?_⟩
    have sq := same_upd (o := .tup [.str (Str.ofString "open"), x, .int (0 + (i : Int))]) nq
    have hD2 := sq _ _ hD
    have kd := (Kd.of_same sq).trans (Kd.upd (ys := acc ++ [.ref q]) hD2)
    have nDq : q ≠ D := fun z => by rw [z, hD] at nq; cases nq
    refine CompN.mk hi (by omega) hD2 ⟨same_wr nD (s1.trans sq), upd_same, ?_⟩
    rw [range_map_succ]
    refine TrsAt.app (.cons (at_tup ((upd_ne nDq).trans upd_same) (.cons at_str (.cons (hx.mono ((Kd.of_same s1).trans kd)) (.cons ?_ .nil)))) .nil) (hA.mono kd)
    unfold TrAt
    rw [Int.zero_add]
  · rintro acc H1 ⟨s1, hD, hA⟩
    exact hq H1 acc s1 hD hA
theorem wiC {D : Addr} {Q : VK} {H : Hp} {m : Nat} (hm : m ≤ 10) (nD : H D = none) (hq : ∀ H' ws, Same H H' → H' D = some (.lst ws) → TrsAt H' ws (wiS m) → Q (.ref D) H') :
    CompW (Itr 0 m) D (tTup (tCons (tC (.str (Str.ofString "wish"))) (tCons (tVar 0) tNil))) [] Q H := by
  have hL : (20000 : Nat) ≤ sizeLine := by decide +kernel
  refine comp_range (n := m) (fun i acc H' => Same H H' ∧ H' D = some (.lst acc) ∧ TrsAt H' acc (wiS i)) ⟨same_upd nD, upd_same, .nil⟩ ?_ ?_
  · rintro i acc H1 hi ⟨s1, hD, hA⟩
    have al := hA.len
    unfold wiS at al
    rw [List.length_map, List.length_range] at al
    refine ⟨_, rfl, by show 2 ≤ sizeLine; decide, fun q nq => ?_⟩
    have sq := same_upd (o := .tup [.str (Str.ofString "wish"), .int (0 + (i : Int))]) nq
    have hD2 := sq _ _ hD
    have kd := (Kd.of_same sq).trans (Kd.upd (ys := acc ++ [.ref q]) hD2)
    have nDq : q ≠ D := fun z => by rw [z, hD] at nq; cases nq
    refine CompN.mk hi (by omega) hD2 ⟨same_wr nD (s1.trans sq), upd_same, ?_⟩
    unfold wiS
    rw [range_map_succ]
    refine TrsAt.app (.cons (at_tup ((upd_ne nDq).trans upd_same) (.cons at_str (.cons ?_ .nil))) .nil) (hA.mono kd)
    unfold TrAt
    rw [Int.zero_add]
  · rintro acc H1 ⟨s1, hD, hA⟩
    exact hq H1 acc s1 hD hA
section
variable {P : Program} {w : World} {K : PySem.W.Frag} {mg : Str → Option Value} {base : Heap}
def spOd : Sp := fun vs H Q _ => ∃ (l : Addr) (ts : List Tr), vs = [.ref l] ∧ WsAt H l 2 ts ∧ ts.length ≤ 5 ∧ ∀ r H' ws, H r = none → Same H H' → H' r = some (.lst ws) → TrsAt H' ws (stepsOf ts) → (∀ t ∈ things ts, Wk t ∧ isBE t = true) → (stepsOf ts).length ≤ 400 → Q (.ref r) H'
theorem scOd : FnScope ["wishes", "steps", "thing"] ["wishes"] (defScope sOd) := ⟨rfl, rfl, rfl, by decide +kernel, rfl, by decide +kernel, by decide +kernel⟩
theorem ok_od {f fT : Addr} {fd dT : FuncData} (F : Fun K "opened" "opened" sOd f fd) (B : Blt mg)
    (GT : FnOk P w K mg base CX0 25 fT dT ["wishes"] spOt) (kT : PySem.W.keepIn K (.ref fT) = true) (bT : Binds K dT ["wishes"] []) (mT : mg "opened_things" = some (.ref fT)) : FnOk P w K mg base CX0 26 f fd ["wishes"] spOd := by
  refine F.ok scOd (fun vs H Q E h => ?_) (fun cdv A outer s H vs Q E hr h => ?_)
  · obtain ⟨l, ts, rfl, _⟩ := h
    rfl
  obtain ⟨l, ts, rfl, ⟨ws, hl, hT, hW⟩, h5, k⟩ := h
  refine ⟨_, pss_cons (ps_setC (NC := ["number"]) (mp := [none]) (i := 1) rfl scOd.nd rfl rfl rfl (pi_range1 rfl B.ra (pa_cons (pe_callB call_len_seq rfl B.le PySem.boot_len (pa_cons (pv 0) pa_nil)) pa_nil)) (fun _ _ _ _ _ => pg_name (i := 0) (show (["number"] : List Str).Nodup by decide +kernel) rfl (Or.inl rfl)) (fun _ _ _ _ _ => pts_nil) (fun _ _ _ _ _ => pe_tup (pa_cons pe_str (pa_cons (pv 0) pa_nil))))
    (pss_cons (ps_for PassesOwn.never rfl (pi_list (pe_call GT hr rfl mT kT bT .nil pass0 (pa_cons (pv 0) pa_nil))) (pg_name (i := 2) scOd.nd rfl (Or.inr rfl))
      (pss_one (ps_expr (pe_bm PySem.F.plainAttrs_list PySem.F.slot_list_extend PySem.F.type_list_extend mt_extend (pv 1) (pa_cons
        (pe_comp (NC := ["number", "thing"]) (mp := [none, some 2]) rfl (pi_range1 rfl B.ra (pa_cons (pe_op op_add (pe_callB call_len_seq rfl B.le PySem.boot_len (pa_cons (pe_ix ix_tup (pv 2) pe_int fun _ _ => rfl) pa_nil)) pe_int) pa_nil)) (fun _ _ _ _ _ => pg_name (i := 0) (show (["number", "thing"] : List Str).Nodup by decide +kernel) rfl (Or.inl rfl)) (fun _ _ _ _ _ => pts_nil)
          (fun _ _ _ _ _ => pe_tup (pa_cons pe_str (pa_cons (pv 1) (pa_cons (pv 0) pa_nil))))) pa_nil)))))
    (pss_one (ps_ret (pv 1)))), ?_⟩
  have hL : (20000 : Nat) ≤ sizeLine := by decide +kernel
  have wl := hT.len
  refine tset_of rfl ?_
  refine ⟨_, rfl, l, ws, rfl, .inl (SqL.of hl), _, rfl, by omega, by omega, fun D nD => ?_⟩
  have ew : ((ws.length : Int)).toNat = ts.length := by omega
  rw [ew]
  refine wiC (by omega) nD fun H1 as1 s1 hD1 hA1 => ?_
  refine gname_of ?_
  try dsimp only
  refine ⟨_, rfl, l, ts, rfl, ⟨ws, s1 _ _ hl, hT.mono (Kd.of_same s1), hW⟩, h5, fun r H2 rs nr s2 hr2 hU hBE hlen => ?_⟩
  have nrD : r ≠ D := fun z => by rw [z, hD1] at nr; cases nr
  have ul := hU.len
  refine ⟨r, rfl, ⟨rs, SqL.of hr2⟩, ?_⟩
  have lenO : ∀ i, (((things ts).take i).flatMap opS).length ≤ 320 := fun i => by
    have h1 := ops_len (ts := (things ts).take i) fun t m => hBE t (List.mem_of_mem_take m)
    have h2 : ((things ts).take i).length ≤ 80 := by rw [List.length_take]; omega
    have h3 := Nat.mul_le_mul_right 4 h2
    omega
  have lenW : (wiS ts.length).length = ts.length := by unfold wiS; rw [List.length_map, List.length_range]
  refine for_list (xs := rs) (fun i σ H' => Same H H' ∧ H' r = some (.lst rs) ∧ TrsAt H' rs (things ts) ∧ ∃ v2 as, σ = [some (.ref l), some (.ref D), v2] ∧ H' D = some (.lst as) ∧ TrsAt H' as (wiS ts.length ++ ((things ts).take i).flatMap opS))
    ⟨s1.trans s2, hr2, hU, none, as1, rfl, s2 _ _ hD1, by simpa using hA1.mono (Kd.of_same s2)⟩ (fun i σ H' _ p => SqL.of p.2.1) ?_ ?_
  · rintro i x σ H3 ex ⟨s3, hr3, hU3, v2, as3, rfl, hD3, hA3⟩
    obtain ⟨t, et, ht⟩ := hU3.get' ex
    have mt := List.mem_of_getElem? et
    obtain ⟨kk, ek, k3⟩ := be_kind (hBE t mt).1 (hBE t mt).2
    have ht' := ht
    rw [ek] at ht'
    obtain ⟨rt, y, rfl, h1, h2⟩ := at2 ht'
    obtain ⟨q, vs, rfl, h4, h6⟩ := at_t h2
    have vl := h6.len
    have al := hA3.len
    rw [List.length_append, lenW] at al
    have lo := lenO i
    refine gname_of ?_
    try dsimp only
    refine ⟨_, rfl, .inl ⟨rfl, _, SqL.of hD3⟩, ?_⟩
    refine tcons1 ?_
    refine tcomp_of rfl ?_
    refine ⟨_, rfl, rt, _, 1, .ref q, rfl, rfl, SqT.of h1, rfl, q, vs, rfl, .inr (SqT.of h4), _, _, rfl, rfl, _, rfl, by omega, by omega, fun D2 nD2 => ?_⟩
    have em : (((vs.length : Nat) : Int) + 1).toNat = (kidsT t).length + 1 := by omega
    rw [em]
    refine opC (by omega) nD2 ht fun H4 bs s4 hD4 hB => ?_
    have bl := hB.len
    rw [List.length_map, List.length_range] at bl
    refine ⟨D, D2, as3, bs, rfl, rfl, s4 _ _ hD3, hD4, by omega, ?_⟩
    have kd := Kd.upd (ys := as3 ++ bs) (s4 _ _ hD3)
    refine ⟨same_wr nD (s3.trans s4), (upd_ne nrD).trans (s4 _ _ hr3), hU3.mono ((Kd.of_same s4).trans kd), _, _, rfl, upd_same, ?_⟩
    have e : wiS ts.length ++ ((things ts).take (i + 1)).flatMap opS = (wiS ts.length ++ ((things ts).take i).flatMap opS) ++ (List.range ((kidsT t).length + 1)).map (oSt t) := by
      rw [List.take_add_one, et, List.flatMap_append, List.append_assoc]
      simp [opS]
    rw [e]
    exact TrsAt.app (hB.mono kd) (hA3.mono ((Kd.of_same s4).trans kd))
  · rintro σ H3 ⟨s3, hr3, hU3, v2, as3, rfl, hD3, hA3⟩
    have lo := lenO (things ts).length
    rw [ul, List.take_length] at hA3
    rw [List.take_length] at lo
    refine ⟨_, rfl, k D H3 as3 nD s3 hD3 hA3 hBE ?_⟩
    unfold stepsOf
    rw [List.length_append, lenW]
    omega
end
end K77
set_option Elab.async false
set_option linter.all false
set_option maxRecDepth 100000
set_option maxHeartbeats 1000000
namespace Tre
open PySem PySem.Spec PyProof.Rows L2
section
variable {X : Cx}
theorem items_eq {pins : List (Addr × Obj)} {σ : L2.St} {H : Hp} {s : Shared} {A : Around} {ts us : List Tr} {vs ws : List V} {as bs : List Value} (I : Inv X pins σ H s) (hu : A.units + 42 < cLine) (h1 : TrsAt H vs ts) (h2 : TrsAt H ws us) (hp : Trs.pure ts ∨ Trs.pure us) (hd : Trs.depth ts ≤ 40) (r1 : Vals vs as) (r2 : Vals ws bs)
    (j : Nat) (g1 : j < as.toArray.size) (g2 : j < bs.toArray.size) : SeqAt.EqAt A s as.toArray[j] bs.toArray[j] (eqJ ts us j) := by
  have l1 := h1.len
  have l2 := h2.len
  have l3 := r1.length
  have l4 := r2.length
  have h1' : j < as.length := by simpa using g1
  have h2' : j < bs.length := by simpa using g2
  have t1 : ts[j]? = some (ts[j]'(by omega)) := List.getElem?_eq_getElem _
  have t2 : us[j]? = some (us[j]'(by omega)) := List.getElem?_eq_getElem _
  obtain ⟨v, e1, a1⟩ := h1.get t1
  obtain ⟨w, e2, a2⟩ := h2.get t2
  obtain ⟨u1, e3, q1⟩ := r1.get e1
  obtain ⟨u2, e4, q2⟩ := r2.get e2
  have z1 : as.toArray[j] = u1 := by rw [List.getElem_toArray]; rw [List.getElem?_eq_getElem h1'] at e3; exact Option.some.inj e3
  have z2 : bs.toArray[j] = u2 := by rw [List.getElem_toArray]; rw [List.getElem?_eq_getElem h2'] at e4; exact Option.some.inj e4
  rw [z1, z2, eqJ_at t1 t2]
  refine tr_eqAt I 40 ?_ ?_ a1 a2 q1 q2 (by omega)
  · have := depth_memT (List.mem_of_getElem? t1)
    omega
  · rcases hp with hp | hp
    · exact .inl (pure_mem hp (List.mem_of_getElem? t1))
    · exact .inr (pure_mem hp (List.mem_of_getElem? t2))
end
end Tre
set_option Elab.async false
set_option linter.all false
set_option maxRecDepth 100000
set_option maxHeartbeats 1000000
namespace L2
open PySem PySem.Spec PyProof.Rows
section
variable {X : Cx}
end
end L2
set_option Elab.async false
set_option linter.all false
set_option maxRecDepth 100000
set_option maxHeartbeats 1000000
namespace Tre
open PySem PySem.Spec PyProof.Rows L2
section
variable {X : Cx}
def rEqL (b : Bool) : R2 := fun x y H Q => ∃ l m vs ws ts us, x = .ref l ∧ y = .ref m ∧ H l = some (.lst vs) ∧ H m = some (.lst ws) ∧ TrsAt H vs ts ∧ TrsAt H ws us ∧ (Trs.pure ts ∨ Trs.pure us) ∧ Trs.depth ts ≤ 40 ∧ Q (.bl (eqTs ts us == b)) H
theorem eqTs_len {ts us : List Tr} (h : ts.length ≠ us.length) : eqTs ts us = false := by
  rw [eqTs_all, Bool.and_eq_false_iff]
  right
  simp [h]
theorem lists_rc {A : Around} {pins : List (Addr × Obj)} {σ : L2.St} {H : Hp} {s : Shared} {l m : Addr} {vs ws : List V} {ts us : List Tr} (hu : A.units + 50 < cLine) (I : Inv X pins σ H s) (h1 : H l = some (.lst vs)) (h2 : H m = some (.lst ws)) (k1 : TrsAt H vs ts) (k2 : TrsAt H ws us) (hp : Trs.pure ts ∨ Trs.pure us) (hd : Trs.depth ts ≤ 40) :
    SeqAt.RcAt A s (.ref l) (.ref m) (eqTs ts us) ∧ SeqAt.RcNeAt A s (.ref l) (.ref m) (!eqTs ts us) := by
  obtain ⟨as, r1, p1, _⟩ := I.list (SqL.of h1)
  obtain ⟨bs, r2, p2, _⟩ := I.list (SqL.of h2)
  have l1 := k1.len
  have l2 := k2.len
  have l3 := r1.length
  have l4 := r2.length
  by_cases z : ts.length = us.length
  · have hsz : as.toArray.size = bs.toArray.size := by rw [List.size_toArray, List.size_toArray]; omega
    have he := fun j (g1 : j < as.toArray.size) (g2 : j < bs.toArray.size) => items_eq (A := A.in1) I (by show A.units + 1 + 42 < cLine; omega) k1 k2 hp hd r1 r2 j g1 g2
    have a1 := SeqAt.RcAt.lists (A := A) (e := eqJ ts us) p1.isList p2.isList hsz (by omega) he
    have a2 := SeqAt.RcNeAt.lists (A := A) (e := eqJ ts us) p1.isList p2.isList hsz (by omega) he
    have e : (List.range as.toArray.size).all (eqJ ts us) = eqTs ts us := by
      rw [eqTs_all, ← z, Nat.min_self]
      have : as.toArray.size = ts.length := by rw [List.size_toArray]; omega
      rw [this]
      simp
    rw [e] at a1 a2
    exact ⟨a1, a2⟩
  · have hsz : (as.toArray.size != bs.toArray.size) = true := by
      rw [List.size_toArray, List.size_toArray]
      simp only [bne_iff_ne, ne_eq]
      omega
    rw [eqTs_len z]
    exact ⟨SeqAt.RcAt.lists_lengths p1.isList p2.isList hsz (by omega), SeqAt.RcNeAt.lists_lengths p1.isList p2.isList hsz (by omega)⟩
theorem op_neL (hu : X.A.units + 60 < cLine) : OpR X (compareOp .NotEq) (rEqL false) := by
  intro pins s σ H x y v u Q I rx ry h
  obtain ⟨l, m, vs, ws, ts, us, rfl, rfl, h1, h2, k1, k2, hp, hd, q⟩ := h
  cases rx
  cases ry
  rw [beq_f] at q
  exact (lists_rc (A := X.A) (by omega) I h1 h2 k1 k2 hp hd).2 X.prog X.w X.xe _ ⟨.bl (!eqTs ts us), H, I, rfl, q⟩
end
end Tre
namespace Tre
open PySem PySem.Spec PyProof.Rows L2
section
variable {X : Cx}
end
end Tre
set_option Elab.async false
set_option linter.all false
set_option maxRecDepth 100000
set_option maxHeartbeats 4000000
namespace K77
open PySem L2 Mth Tre Wd Su Tw
theorem kit_ll (K : PySem.W.Frag) : PySem.W.kitOne K (.type "list") (.type "list") = some true := by kernel_rfl
section
variable {P : Program} {w : World} {K : PySem.W.Frag} {mg : Str → Option Value} {base : Heap}
def spLaw (K : PySem.W.Frag) : Sp := fun vs H Q _ => ∃ (a : Addr) (ns : List Int), vs = [.ref a] ∧ SqL K H a (ns.map V.int) ∧ ns.length ≤ 63 ∧ ∀ H', Q (.bl true) H'
theorem scL : FnScope ["_law_script", "_law_wishes_here", "_law_k", "_law_due", "_law_seen", "_law_wish_here", "_law_part", "_law_handed", "_law_found", "_law_step"] ["_law_script"] (defScope sLaw) := ⟨rfl, rfl, rfl, by decide +kernel, rfl, by decide +kernel, by decide +kernel⟩
open Classical in
theorem ok_law {f fW fP fO : Addr} {fd dW dP dO : FuncData} (F : Fun K "law" "law" sLaw f fd) (B : Blt mg)
    (gW : FnOk P w K mg base CX0 6 fW dW ["_law_script", "_law_base"] (spWishes K)) (kW : PySem.W.keepIn K (.ref fW) = true) (bW : Binds K dW ["_law_script", "_law_base"] []) (mW : mg "_law_wishes" = some (.ref fW))
    (gP : FnOk P w K mg base CX0 4 fP dP ["_law_wish_here"] (spLp 3)) (kP : PySem.W.keepIn K (.ref fP) = true) (bP : Binds K dP ["_law_wish_here"] []) (mP : mg "_law_parts" = some (.ref fP))
    (gO : FnOk P w K mg base CX0 26 fO dO ["wishes"] spOd) (kO : PySem.W.keepIn K (.ref fO) = true) (bO : Binds K dO ["wishes"] []) (mO : mg "opened" = some (.ref fO)) : FnOk P w K mg base CX0 27 f fd ["_law_script"] (spLaw K) := by
  refine F.ok scL (fun vs H Q E h => ?_) (fun cdv A outer s H vs Q E hr h => ?_)
  · obtain ⟨a, ns, rfl, _⟩ := h
    rfl
  obtain ⟨a, ns, rfl, hS, hl63, k⟩ := h
  have hr6 : Room 6 _ := hr.mono (by decide)
  have hr4 : Room 4 _ := hr.mono (by decide)
  have hun := hr.units
  have hu50 := Nat.lt_of_le_of_lt (Nat.add_le_add_left (show 50 ≤ 64 by decide) _) hun
  have hu60 := Nat.lt_of_le_of_lt (Nat.add_le_add_left (show 60 ≤ 64 by decide) _) hun
  refine ⟨_, pss_cons (ps_set (i := 1) scL.nd rfl (Or.inl rfl) (pe_call gW hr6 rfl mW kW bW .nil pass0 (pa_cons (pv 0) (pa_cons pe_int pa_nil))))
    (pss_cons (ps_setC (NC := ["_law_k"]) (mp := [none]) (i := 3) rfl scL.nd rfl rfl rfl (pi_range1 rfl B.ra (pa_cons (pe_callB call_len_seq rfl B.le PySem.boot_len (pa_cons (pv 1) pa_nil)) pa_nil)) (fun _ _ _ _ _ => pg_name (i := 0) (show (["_law_k"] : List Str).Nodup by decide +kernel) rfl (Or.inl rfl)) (fun _ _ _ _ _ => pts_nil) (fun _ _ _ _ _ => pe_tup (pa_cons pe_str (pa_cons (pv 0) pa_nil))))
    (pss_cons (ps_set (i := 4) scL.nd rfl (Or.inl rfl) (pe_lst pa_nil))
    (pss_cons (ps_for PassesOwn.never rfl (pi_list (pv 1)) (pg_name (i := 5) scL.nd rfl (Or.inl rfl))
      (pss_one (ps_for PassesOwn.never rfl (pi_list (pe_call gP hr4 rfl mP kP bP .nil pass0 (pa_cons (pv 5) pa_nil))) (pg_name (i := 6) scL.nd rfl (Or.inr rfl))
        (pss_one (ps_if (PW.pt (pw_and (pt_cmpR (op_inE hu50) (pe_ix ix_tup (pv 6) pe_int fun _ _ => rfl) (pe_lit 9 rfl) (by with_unfolding_all rfl)) (pw_and1 (pt_cmpR (op_outE hu50) (pv 6) (pv 4) (by with_unfolding_all rfl)))))
          (pss_cons (ps_expr (pe_bm PySem.F.plainAttrs_list PySem.F.slot_list_append PySem.F.type_list_append mt_append (pv 4) (pa_cons (pv 6) pa_nil)))
          (pss_one (ps_set (i := 3) scL.nd rfl (Or.inl rfl) (pe_op op_cat (pv 3)
            (pe_comp (NC := ["_law_k", "_law_part"]) (mp := [none, some 6]) rfl (pi_range1 rfl B.ra (pa_cons (pe_op op_add (pe_callB call_len_seq rfl B.le PySem.boot_len (pa_cons (pe_ix ix_tup (pv 6) pe_int fun _ _ => rfl) pa_nil)) pe_int) pa_nil)) (fun _ _ _ _ _ => pg_name (i := 0) (show (["_law_k", "_law_part"] : List Str).Nodup by decide +kernel) rfl (Or.inl rfl)) (fun _ _ _ _ _ => pts_nil)
              (fun _ _ _ _ _ => pe_tup (pa_cons pe_str (pa_cons (pv 1) (pa_cons (pv 0) pa_nil))))))))) pss_nil)))))
    (pss_cons (ps_set (i := 7) scL.nd rfl (Or.inl rfl) (pe_callTy call_list_of rfl B.li PyProof.Rows.boot_list (pa_cons (pv 1) pa_nil)))
    (pss_cons (ps_for PassesOwn.never rfl (pi_range1 rfl B.ra (pa_cons pe_int pa_nil)) (pg_name (i := 2) scL.nd rfl (Or.inl rfl))
      (pss_cons (ps_set (i := 8) scL.nd rfl (Or.inl rfl) (pe_call gO (hr.mono (by decide)) rfl mO kO bO .nil pass0 (pa_cons (pv 7) pa_nil)))
      (pss_cons (ps_if (PW.pt (pw_or (pt_not (pt_val (pe_callB (r := rIsi K) call_isi rfl B.isi boot_isinstance (pa_cons (pv 8) (pa_cons (pe_bltn (v := .ty "list") rfl B.li PyProof.Rows.boot_list rfl) pa_nil))))) (pw_or (pt_cmpR (op_neL hu60) (pv 8) (pv 3) (nomark _)) (pw_or1 (pt_cmpR (op_neL hu60) (pv 7) (pv 1) (nomark _)))))) (pss_one (ps_ret pe_bl)) pss_nil)
      (pss_cons (ps_for PassesOwn.never rfl (pi_list (pv 8)) (pg_name (i := 9) scL.nd rfl (Or.inl rfl))
        (pss_one (ps_if (PW.pt (pw_or (pt_not (pt_val (pe_callB (r := rIsi K) call_isi rfl B.isi boot_isinstance (pa_cons (pv 9) (pa_cons (pe_bltn (v := .ty "tuple") rfl B.tu PyProof.Rows.boot_tuple rfl) pa_nil))))) (pw_or1 (pt_val (pe_callB (r := rIsi K) call_isi rfl B.isi boot_isinstance (pa_cons (pe_ix ix_tup (pv 9) (pe_un un_neg pe_int) fun _ _ => rfl) (pa_cons (pe_bltn (v := .ty "bool") rfl B.bo PyProof.Rows.boot_bool rfl) pa_nil))))))) (pss_one (ps_ret pe_bl)) pss_nil)))
      (pss_one (ps_expr (pe_bm PySem.F.plainAttrs_list PySem.F.slot_list_append PySem.F.type_list_append mt_append (pv 8) (pa_cons pe_non pa_nil))))))))
    (pss_one (ps_ret pe_bl))))))), ?_⟩
  have hL : (20000 : Nat) ≤ sizeLine := by decide +kernel
  refine ⟨_, rfl, a, ns, 400, rfl, hS, hl63, by decide, by decide, fun W H1 ts s1 nW hWs h5 => ?_⟩
  obtain ⟨ws, hW1, hT1, hWy⟩ := hWs
  have wl := hT1.len
  have lenT := bes_len hWy
  have lenT5 : ts.length * 16 ≤ 5 * 16 := Nat.mul_le_mul_right _ h5
  have lenF : ∀ i, (Fs.firsts [] ((ts.take i).flatMap bes)).length ≤ 80 := fun i => by
    have h1 := Fs.firsts_len ((ts.take i).flatMap bes) []
    have h2 := bes_take_le ts i
    rw [List.length_nil] at h1
    omega
  have wkB : ∀ u ∈ ts.flatMap bes, Wk u ∧ isBE u = true := fun u m => by
    obtain ⟨t, mt, mu⟩ := List.mem_flatMap.mp m
    obtain ⟨c, hc⟩ := hWy t mt
    obtain ⟨m1, m2⟩ := List.mem_filter.mp mu
    exact ⟨part_wk hc u m1, m2⟩
  have wkF : ∀ i, ∀ u ∈ Fs.firsts [] ((ts.take i).flatMap bes), Wk u ∧ isBE u = true := fun i u m => by
    rcases Fs.mem_fst.mp m with q | q
    · cases q
    · obtain ⟨t, mt, mu⟩ := List.mem_flatMap.mp q
      exact wkB u (List.mem_flatMap.mpr ⟨t, List.mem_of_mem_take mt, mu⟩)
  have lenW : (wiS ts.length).length = ts.length := by unfold wiS; rw [List.length_map, List.length_range]
  refine gname_of ?_
  try dsimp only
  refine tset_of rfl ?_
  refine ⟨_, rfl, W, ws, rfl, .inl (SqL.of hW1), _, rfl, by omega, by omega, fun U nU => ?_⟩
  have ew : ((ws.length : Int)).toNat = ts.length := by omega
  rw [ew]
  refine wiC (by omega) nU fun H2 us2 s2 hU2 hA2 => ?_
  refine gname_of ?_
  try dsimp only
  refine ⟨by show 0 ≤ sizeLine; decide, fun S nS => ?_⟩
  have s3 := same_upd (o := .lst []) nS
  have hS3 := upd_same (H := H2) (a := S) (o := .lst [])
  generalize upd H2 S (.lst []) = H3 at s3 hS3 ⊢
  have hW2 := s2 _ _ hW1
  have hT2 := hT1.mono (Kd.of_same s2)
  refine gname_of ?_
  try dsimp only
  refine ⟨_, rfl, W, rfl, ⟨ws, SqL.of (s3 _ _ hW2)⟩, ?_⟩
  refine for_list (xs := ws) (fun i σ H' => Same H2 H' ∧ ∃ U v5 v6 ds rs, σ = [some (.ref a), some (.ref W), none, some (.ref U), some (.ref S), v5, v6, none, none, none] ∧ H' S = some (.lst rs) ∧ TrsAt H' rs (Fs.firsts [] ((ts.take i).flatMap bes)) ∧ S ≠ U ∧ H' U = some (.lst ds) ∧ TrsAt H' ds (wiS ts.length ++ (Fs.firsts [] ((ts.take i).flatMap bes)).flatMap opS))
    ⟨s3, U, none, none, us2, [], rfl, hS3, .nil, (fun z => by rw [z, hU2] at nS; cases nS), s3 _ _ hU2, by simpa [Fs.firsts_nil] using hA2.mono (Kd.of_same s3)⟩ (fun i σ H' _ p => SqL.of (p.1 _ _ hW2)) ?_ ?_
  · rintro i x σ H4 ex ⟨s4, U4, v5, v6, ds4, rs4, rfl, hS4, hR4, nSU, hU4, hA4⟩
    obtain ⟨t, et, ht⟩ := (hT2.mono (Kd.of_same s4)).get' ex
    have mt := List.mem_of_getElem? et
    obtain ⟨c, hc⟩ := hWy t mt
    refine gname_of ?_
    try dsimp only
    refine ⟨_, rfl, x, t, c, 2, rfl, ht, hc, by decide, by decide, fun r H5 ws5 nr s5 hr5 hP5 => ?_⟩
    have nrS : r ≠ S := fun z => by rw [z, hS4] at nr; cases nr
    have pl := hP5.len
    have plen := part_len hc
    have wkU := part_wk hc
    refine ⟨r, rfl, ⟨ws5, SqL.of hr5⟩, ?_⟩
    refine for_list (xs := ws5) (fun j σ H' => Same H2 H' ∧ H' r = some (.lst ws5) ∧ TrsAt H' ws5 (Fs.firsts [] (allN 2 t)) ∧ ∃ U v6 ds rs, σ = [some (.ref a), some (.ref W), none, some (.ref U), some (.ref S), some x, v6, none, none, none] ∧ H' S = some (.lst rs) ∧ TrsAt H' rs (Fs.firsts (Fs.firsts [] ((ts.take i).flatMap bes)) (((Fs.firsts [] (allN 2 t)).take j).filter isBE)) ∧ S ≠ U ∧ H' U = some (.lst ds) ∧ TrsAt H' ds (wiS ts.length ++ (Fs.firsts (Fs.firsts [] ((ts.take i).flatMap bes)) (((Fs.firsts [] (allN 2 t)).take j).filter isBE)).flatMap opS))
      ⟨s4.trans s5, hr5, hP5, U4, v6, ds4, rs4, rfl, s5 _ _ hS4, hR4.mono (Kd.of_same s5), nSU, s5 _ _ hU4, hA4.mono (Kd.of_same s5)⟩ (fun j σ H' _ p => SqL.of p.2.1) ?_ ?_
    · rintro j y σ H6 ey ⟨s6, hr6', hP6, U6, v66, ds6, rs6, rfl, hS6, hR6, nSU6, hU6, hA6⟩
      obtain ⟨z, ez, hz⟩ := hP6.get' ey
      have mz := List.mem_of_getElem? ez
      have wz := wkU z mz
      have tz := wk_ty wz
      obtain ⟨kk, rr, rfl, kind⟩ := wk_kind wz
      obtain ⟨r5, vs5, rfl, h51, h52⟩ := first_at hz
      have et2 : (Fs.firsts [] (allN 2 t)).take (j + 1) = (Fs.firsts [] (allN 2 t)).take j ++ [.tup (.str kk :: rr)] := by rw [List.take_add_one, ez]; rfl
      have lenA := lenF i
      have lenB := Fs.firsts_len (((Fs.firsts [] (allN 2 t)).take j).filter isBE) (Fs.firsts [] ((ts.take i).flatMap bes))
      have lenC : (((Fs.firsts [] (allN 2 t)).take j).filter isBE).length ≤ 16 := Nat.le_trans (List.length_filter_le _ _) (by rw [List.length_take]; omega)
      have wkS : ∀ u ∈ Fs.firsts (Fs.firsts [] ((ts.take i).flatMap bes)) (((Fs.firsts [] (allN 2 t)).take j).filter isBE), Wk u ∧ isBE u = true := fun u m => by
        rcases Fs.mem_fst.mp m with q | q
        · exact wkF i u q
        · obtain ⟨m1, m2⟩ := List.mem_filter.mp q
          exact ⟨wkU u (List.mem_of_mem_take m1), m2⟩
      have rl := hR6.len
      have al := hA6.len
      have ol := ops_len wkS
      rw [List.length_append, lenW] at al
      refine gname_of ?_
      try dsimp only
      refine ⟨_, rfl, r5, _, 0, .str kk, rfl, rfl, SqT.of h51, atI_nat (j := 0) rfl, fun vT H7 s7 hT7 => ?_⟩
      obtain ⟨p, xs, rfl, hp, hx⟩ := at_t hT7
      refine ⟨p, xs, _, .str kk, rfl, .inr hp, hx, at_str, be_dep, trivial, _, rfl, ?_⟩
      have hS7 := s7 _ _ hS6
      have hR7 := hR6.mono (Kd.of_same s7)
      have hU7 := s7 _ _ hU6
      have hA7 := hA6.mono (Kd.of_same s7)
      have hr7 := s7 _ _ hr6'
      have hP7 := hP6.mono (Kd.of_same s7)
      have hz7 := hz.mono (Kd.of_same s7)
      have s27 := s6.trans s7
      rcases kind with kd | ⟨kd, erest, k3⟩
      · have eb : isBE (.tup (.str kk :: rr)) = false := by
          show decide _ = false
          rcases kd with rfl | rfl | rfl | rfl <;> decide +kernel
        have ef : ((Fs.firsts [] (allN 2 t)).take (j + 1)).filter isBE = ((Fs.firsts [] (allN 2 t)).take j).filter isBE := by
          rw [et2, List.filter_append, List.filter_cons, if_neg (by rw [eb]; exact Bool.false_ne_true)]
          simp
        rw [be_any.1 kd]
        refine iteF ?_
        refine iteF ?_
        refine ⟨s27, hr7, hP7, U6, _, ds6, rs6, rfl, hS7, ?_, nSU6, hU7, ?_⟩
        · rw [ef]; exact hR7
        · rw [ef]; exact hA7
      · have eb : isBE (.tup (.str kk :: rr)) = true := decide_eq_true kd
        have ef : ((Fs.firsts [] (allN 2 t)).take (j + 1)).filter isBE = ((Fs.firsts [] (allN 2 t)).take j).filter isBE ++ [.tup (.str kk :: rr)] := by
          rw [et2, List.filter_append, List.filter_cons, if_pos eb]
          rfl
        rw [be_any.2 kd]
        refine iteT ?_
        refine ⟨_, rfl, _, rfl, S, rs6, _, _, rfl, .inl hS7, hR7, hz7, fun u m => by have := (wk_ty (wkS u m).1).2; omega, ty_pure tz.1, _, rfl, ?_⟩
        rw [any_mem (fun u m => (wk_ty (wkS u m).1).1) tz.1]
        by_cases ms : Tr.tup (.str kk :: rr) ∈ Fs.firsts (Fs.firsts [] ((ts.take i).flatMap bes)) (((Fs.firsts [] (allN 2 t)).take j).filter isBE)
        · rw [decide_eq_true ms]
          refine iteF ?_
          have ea : Fs.firsts (Fs.firsts [] ((ts.take i).flatMap bes)) (((Fs.firsts [] (allN 2 t)).take (j + 1)).filter isBE) = Fs.firsts (Fs.firsts [] ((ts.take i).flatMap bes)) (((Fs.firsts [] (allN 2 t)).take j).filter isBE) := by rw [ef, Fs.firsts_app, Fs.firsts_one, Fs.add_in ms]
          refine ⟨s27, hr7, hP7, U6, _, ds6, rs6, rfl, hS7, ?_, nSU6, hU7, ?_⟩
          · rw [ea]; exact hR7
          · rw [ea]; exact hA7
        · rw [decide_eq_false ms]
          refine iteT ?_
          have ea : Fs.firsts (Fs.firsts [] ((ts.take i).flatMap bes)) (((Fs.firsts [] (allN 2 t)).take (j + 1)).filter isBE) = Fs.firsts (Fs.firsts [] ((ts.take i).flatMap bes)) (((Fs.firsts [] (allN 2 t)).take j).filter isBE) ++ [.tup (.str kk :: rr)] := by rw [ef, Fs.firsts_app, Fs.firsts_one, Fs.add_out ms]
          refine ⟨_, rfl, .inl ⟨rfl, _, SqL.of hS7⟩, _, rfl, S, rs6, .ref r5, rfl, rfl, hS7, by omega, ?_⟩
          have kd8 := Kd.upd (ys := rs6 ++ [.ref r5]) hS7
          have hS8 := upd_same (H := H7) (a := S) (o := .lst (rs6 ++ [.ref r5]))
          have s28 : Same H2 (upd H7 S (.lst (rs6 ++ [.ref r5]))) := same_wr nS s27
          have hr8 := (upd_ne (H := H7) (o := .lst (rs6 ++ [.ref r5])) nrS).trans hr7
          have hU8 := (upd_ne (H := H7) (o := .lst (rs6 ++ [.ref r5])) (Ne.symm nSU6)).trans hU7
          have hz8 := hz7.mono kd8
          have hR8 := TrsAt.app (.cons hz8 .nil) (hR7.mono kd8)
          have hA8 := hA7.mono kd8
          have hP8 := hP7.mono kd8
          generalize upd H7 S (.lst (rs6 ++ [.ref r5])) = H8 at hS8 s28 hr8 hU8 hz8 hR8 hA8 hP8 ⊢
          refine ⟨_, rfl, ?_⟩
          refine tcomp_of rfl ?_
          have hz9 := hz8
          rw [erest] at hz9
          obtain ⟨rt, y9, e9, h91, h92⟩ := at2 hz9
          cases e9
          obtain ⟨q, vs, rfl, h94, h95⟩ := at_t h92
          have vl := h95.len
          refine ⟨_, rfl, r5, _, 1, .ref q, rfl, rfl, SqT.of h91, rfl, q, vs, rfl, .inr (SqT.of h94), _, _, rfl, rfl, _, rfl, by omega, by omega, fun D2 nD2 => ?_⟩
          have em : (((vs.length : Nat) : Int) + 1).toNat = (kidsT (.tup (.str kk :: rr))).length + 1 := by omega
          rw [em]
          refine opC (by omega) nD2 hz8 fun H9 bs s9 hD9 hB => ?_
          have bl := hB.len
          rw [List.length_map, List.length_range] at bl
          refine ⟨U6, D2, ds6, bs, rfl, rfl, s9 _ _ hU8, hD9, by omega, fun U9 nU9 => ?_⟩
          have s10 := same_upd (o := .lst (ds6 ++ bs)) nU9
          have sE := s9.trans s10
          refine ⟨s28.trans sE, sE _ _ hr8, hP8.mono (Kd.of_same sE), U9, _, _, _, rfl, sE _ _ hS8, ?_, ?_, upd_same, ?_⟩
          · rw [ea]
            exact hR8.mono (Kd.of_same sE)
          · intro e
            have := s9 _ _ hS8
            rw [e, nU9] at this
            cases this
          · rw [ea, List.flatMap_append, ← List.append_assoc]
            refine TrsAt.app ?_ (hA8.mono (Kd.of_same sE))
            simpa [opS] using hB.mono (Kd.of_same s10)
    · rintro σ H6 ⟨s6, hr6', hP6, U6, v66, ds6, rs6, rfl, hS6, hR6, nSU6, hU6, hA6⟩
      rw [pl, List.take_length] at hR6 hA6
      have ea : Fs.firsts [] ((ts.take (i + 1)).flatMap bes) = Fs.firsts (Fs.firsts [] ((ts.take i).flatMap bes)) ((Fs.firsts [] (allN 2 t)).filter isBE) := by rw [bes_take et, Fs.firsts_app]; rfl
      refine ⟨s6, U6, _, _, ds6, rs6, rfl, hS6, ?_, nSU6, hU6, ?_⟩
      · rw [ea]; exact hR6
      · rw [ea]; exact hA6
  rintro σ H4 ⟨s4, U4, v5, v6, ds4, rs4, rfl, hS4, hR4, nSU, hU4, hA4⟩
  rw [wl, List.take_length] at hA4
  have hW4 := s4 _ _ hW2
  have hT4 := hT2.mono (Kd.of_same s4)
  refine ⟨_, rfl, W, ws, rfl, .inl (SqL.of hW4), fun G nG => ?_⟩
  have s5 := same_upd (o := .lst ws) nG
  have hG5 := upd_same (H := H4) (a := G) (o := .lst ws)
  have hU5 := s5 _ _ hU4
  have hA5 := hA4.mono (Kd.of_same s5)
  have hW5 := s5 _ _ hW4
  have hT5 := hT4.mono (Kd.of_same s5)
  generalize upd H4 G (.lst ws) = H5 at s5 hG5 hU5 hA5 hW5 hT5 ⊢
  have wkT : ∀ u ∈ things ts, Wk u ∧ isBE u = true := fun u m => by
    have := wkF ts.length u
    rw [List.take_length] at this
    exact this m
  have spd := steps_pd (fun u m => (wkT u m).1) ts.length
  have wpd : Trs.pure ts ∧ Trs.depth ts ≤ 40 := by
    have h : ∀ t ∈ ts, t.pure ∧ t.depth ≤ 40 := fun t m => by
      obtain ⟨c, hc⟩ := hWy t m
      have := wx_ty hc.wx
      exact ⟨ty_pure this.1, by omega⟩
    exact ⟨pure_all fun t m => (h t m).1, depths_le fun t m => (h t m).2⟩
  refine gname_of ?_
  try dsimp only
  refine ⟨2, rfl, by decide, by decide, ?_⟩
  refine for_range (n := 2) (fun i σ H' => Same H5 H' ∧ ∃ v2 v8 v9, σ = [some (.ref a), some (.ref W), v2, some (.ref U4), some (.ref S), v5, v6, some (.ref G), v8, v9]) ⟨Same.refl _, _, _, _, rfl⟩ ?_ ?_
  · rintro i σ H6 hi ⟨s6, v2, v8, v9, rfl⟩
    refine gname_of ?_
    try dsimp only
    refine ⟨_, rfl, G, ts, rfl, ⟨ws, s6 _ _ hG5, hT5.mono (Kd.of_same s6), hWy⟩, h5, fun r H7 rs nr s7 hr7 hR7 _ hlen => ?_⟩
    have s67 := s6.trans s7
    have kd7 := Kd.of_same s67
    have rl := hR7.len
    refine gname_of ?_
    try dsimp only
    refine ⟨_, rfl, .ref r, .ty "list", _, true, rfl, .of (.lst hr7), .inl ⟨rfl, kit_ll K⟩, true, rfl, ?_⟩
    refine iteF ?_
    refine ⟨_, rfl, _, rfl, r, U4, rs, ds4, _, _, rfl, rfl, hr7, s67 _ _ hU5, hR7, hA5.mono kd7, .inl spd.1, spd.2, _, rfl, ?_⟩
    have e1 : (eqTs (stepsOf ts) (wiS ts.length ++ (Fs.firsts [] (ts.flatMap bes)).flatMap opS) == false) = false := by
      have : stepsOf ts = wiS ts.length ++ (Fs.firsts [] (ts.flatMap bes)).flatMap opS := rfl
      rw [this, eqTs_refl]
      rfl
    rw [e1]
    refine iteF ?_
    refine ⟨_, rfl, _, rfl, G, W, ws, ws, ts, ts, rfl, rfl, s67 _ _ hG5, s67 _ _ hW5, hT5.mono kd7, hT5.mono kd7, .inl wpd.1, wpd.2, _, rfl, ?_⟩
    rw [eqTs_refl]
    refine iteF ?_
    refine ⟨_, rfl, r, rfl, ⟨rs, SqL.of hr7⟩, ?_⟩
    refine for_list (xs := rs) (fun j σ H' => H' = H7 ∧ ∃ v9, σ = [some (.ref a), some (.ref W), some (.int (0 + (i : Int))), some (.ref U4), some (.ref S), v5, v6, some (.ref G), some (.ref r), v9]) ⟨rfl, _, rfl⟩ (fun j σ H' _ p => by rw [p.1]; exact SqL.of hr7) ?_ ?_
    · rintro j y σ H8 ey ⟨rfl, v98, rfl⟩
      obtain ⟨t, et, ht⟩ := hR7.get' ey
      have mt := List.mem_of_getElem? et
      refine gname_of ?_
      try dsimp only
      rcases steps_mem (fun u m => (wkT u m).1) mt with ⟨kk, rfl⟩ | ⟨u, kk, rfl, _⟩
      · obtain ⟨r9, y9, rfl, h91, h92⟩ := at2 ht
        have e9 : y9 = .int (kk : Int) := by unfold TrAt at h92; exact h92
        subst e9
        refine ⟨_, rfl, .ref r9, .ty "tuple", _, true, rfl, .of (.tup h91), .inl ⟨rfl, kit_tuple_tuple K⟩, true, rfl, ?_⟩
        refine iteF ?_
        refine ⟨_, rfl, 1, rfl, r9, _, -1, .int (kk : Int), rfl, rfl, SqT.of h91, rfl, .int (kk : Int), .ty "bool", _, false, rfl, .of (.int _), .inl ⟨rfl, kit_int_bool K⟩, false, rfl, ?_⟩
        exact iteF ⟨rfl, _, rfl⟩
      · obtain ⟨r9, y9, z9, rfl, h91, _, h92⟩ := at3 ht
        have e9 : z9 = .int (kk : Int) := by unfold TrAt at h92; exact h92
        subst e9
        refine ⟨_, rfl, .ref r9, .ty "tuple", _, true, rfl, .of (.tup h91), .inl ⟨rfl, kit_tuple_tuple K⟩, true, rfl, ?_⟩
        refine iteF ?_
        refine ⟨_, rfl, 1, rfl, r9, _, -1, .int (kk : Int), rfl, rfl, SqT.of h91, rfl, .int (kk : Int), .ty "bool", _, false, rfl, .of (.int _), .inl ⟨rfl, kit_int_bool K⟩, false, rfl, ?_⟩
        exact iteF ⟨rfl, _, rfl⟩
    · rintro σ H8 ⟨rfl, v98, rfl⟩
      refine ⟨_, rfl, .inl ⟨rfl, _, SqL.of hr7⟩, r, rs, .non, rfl, rfl, hr7, by omega, ?_⟩
      have nr5 : H5 r = none := by
        cases e : H5 r with
        | none => rfl
        | some o => rw [s6 _ _ e] at nr; cases nr
      exact ⟨same_wr nr5 s67, _, _, _, rfl⟩
  · rintro σ H6 ⟨s6, v2, v8, v9, rfl⟩
    exact k H6
end
end K77
set_option Elab.async false
set_option linter.all false
set_option maxRecDepth 100000
set_option maxHeartbeats 4000000
namespace K77
open PySem L2 Mth Wd
theorem all_mk {l : PySem.W.OpenLaw} {w : World} {K : PySem.W.Frag} {h : Heap} {mg : Str → Option Value} {fa : Addr} (X : K.In h) (G : h.Ns mainGlobals mg) (hfa : mg "law" = some (.ref fa))
    {fFG : Addr} {odFG anFG : Option Addr} {slFG : Array (Option Value)} {ocFG kVFG dcFG pmFG cdFG ctFG : Value}
    {fFT : Addr} {odFT anFT : Option Addr} {slFT : Array (Option Value)} {ocFT kVFT dcFT pmFT cdFT ctFT : Value}
    {fBR : Addr} {odBR anBR : Option Addr} {slBR : Array (Option Value)} {ocBR kVBR dcBR pmBR cdBR ctBR : Value}
    {fST : Addr} {odST anST : Option Addr} {slST : Array (Option Value)} {ocST kVST dcST pmST cdST ctST : Value}
    {fSW : Addr} {odSW anSW : Option Addr} {slSW : Array (Option Value)} {ocSW kVSW dcSW pmSW cdSW ctSW : Value}
    {fIN : Addr} {odIN anIN : Option Addr} {slIN : Array (Option Value)} {ocIN kVIN dcIN pmIN cdIN ctIN : Value}
    {fTS : Addr} {odTS anTS : Option Addr} {slTS : Array (Option Value)} {ocTS kVTS dcTS pmTS cdTS ctTS : Value}
    {fWR : Addr} {odWR anWR : Option Addr} {slWR : Array (Option Value)} {ocWR kVWR dcWR pmWR cdWR ctWR : Value}
    {fPO : Addr} {odPO anPO : Option Addr} {slPO : Array (Option Value)} {ocPO kVPO dcPO pmPO cdPO ctPO : Value}
    {fGP : Addr} {odGP anGP : Option Addr} {slGP : Array (Option Value)} {ocGP kVGP dcGP pmGP cdGP ctGP : Value}
    {fOT : Addr} {odOT anOT : Option Addr} {slOT : Array (Option Value)} {ocOT kVOT dcOT pmOT cdOT ctOT : Value}
    {fOD : Addr} {odOD anOD : Option Addr} {slOD : Array (Option Value)} {ocOD kVOD dcOD pmOD cdOD ctOD : Value}
    {fDR : Addr} {odDR anDR : Option Addr} {slDR : Array (Option Value)} {ocDR kVDR dcDR pmDR cdDR ctDR : Value}
    {fTE : Addr} {odTE anTE : Option Addr} {slTE : Array (Option Value)} {ocTE kVTE dcTE pmTE cdTE ctTE : Value}
    {fSH : Addr} {odSH anSH : Option Addr} {slSH : Array (Option Value)} {ocSH kVSH dcSH pmSH cdSH ctSH : Value}
    {fAT : Addr} {odAT anAT : Option Addr} {slAT : Array (Option Value)} {ocAT kVAT dcAT pmAT cdAT ctAT : Value}
    {fWI : Addr} {odWI anWI : Option Addr} {slWI : Array (Option Value)} {ocWI kVWI dcWI pmWI cdWI ctWI : Value}
    {fWS : Addr} {odWS anWS : Option Addr} {slWS : Array (Option Value)} {ocWS kVWS dcWS pmWS cdWS ctWS : Value}
    {fLP : Addr} {odLP anLP : Option Addr} {slLP : Array (Option Value)} {ocLP kVLP dcLP pmLP cdLP ctLP : Value}
    {fLA : Addr} {odLA anLA : Option Addr} {slLA : Array (Option Value)} {ocLA kVLA dcLA pmLA cdLA ctLA : Value}
    {tPI tPW u1 u2 u3 u4 u5 : Tok} {FW : Addr} {eFW : Array DictEntry} {nFW : Nat}
    (aFG : PySem.W.nsIn K mainGlobals "figures_of" = some (some (.ref fFG)))
    (lFG : K.lookup fFG = some ⟨ocFG, odFG, .func (PySem.W.fnOf "figures_of" "figures_of" (defArgs sFg) (defBody sFg) (defScope sFg) .none kVFG dcFG pmFG anFG cdFG ctFG), slFG⟩)
    (cFG : PySem.W.codeIn K cdFG "figures_of" = true)
    (kFG : PySem.W.keepIn K (.ref fFG) = true)
    (aFT : PySem.W.nsIn K mainGlobals "fraction_text" = some (some (.ref fFT)))
    (lFT : K.lookup fFT = some ⟨ocFT, odFT, .func (PySem.W.fnOf "fraction_text" "fraction_text" (defArgs sFt) (defBody sFt) (defScope sFt) .none kVFT dcFT pmFT anFT cdFT ctFT), slFT⟩)
    (cFT : PySem.W.codeIn K cdFT "fraction_text" = true)
    (kFT : PySem.W.keepIn K (.ref fFT) = true)
    (aBR : PySem.W.nsIn K mainGlobals "bracketed" = some (some (.ref fBR)))
    (lBR : K.lookup fBR = some ⟨ocBR, odBR, .func (PySem.W.fnOf "bracketed" "bracketed" (defArgs sBr) (defBody sBr) (defScope sBr) .none kVBR dcBR pmBR anBR cdBR ctBR), slBR⟩)
    (cBR : PySem.W.codeIn K cdBR "bracketed" = true)
    (kBR : PySem.W.keepIn K (.ref fBR) = true)
    (aST : PySem.W.nsIn K mainGlobals "shown_term" = some (some (.ref fST)))
    (lST : K.lookup fST = some ⟨ocST, odST, .func (PySem.W.fnOf "shown_term" "shown_term" (defArgs sSt) (defBody sSt) (defScope sSt) .none kVST dcST pmST anST cdST ctST), slST⟩)
    (cST : PySem.W.codeIn K cdST "shown_term" = true)
    (kST : PySem.W.keepIn K (.ref fST) = true)
    (aSW : PySem.W.nsIn K mainGlobals "shown_wish" = some (some (.ref fSW)))
    (lSW : K.lookup fSW = some ⟨ocSW, odSW, .func (PySem.W.fnOf "shown_wish" "shown_wish" (defArgs sSw) (defBody sSw) (defScope sSw) .none kVSW dcSW pmSW anSW cdSW ctSW), slSW⟩)
    (cSW : PySem.W.codeIn K cdSW "shown_wish" = true)
    (kSW : PySem.W.keepIn K (.ref fSW) = true)
    (aIN : PySem.W.nsIn K mainGlobals "inner_texts" = some (some (.ref fIN)))
    (lIN : K.lookup fIN = some ⟨ocIN, odIN, .func (PySem.W.fnOf "inner_texts" "inner_texts" (defArgs sIn) (defBody sIn) (defScope sIn) .none kVIN dcIN pmIN anIN cdIN ctIN), slIN⟩)
    (cIN : PySem.W.codeIn K cdIN "inner_texts" = true)
    (kIN : PySem.W.keepIn K (.ref fIN) = true)
    (aTS : PySem.W.nsIn K mainGlobals "sum_texts" = some (some (.ref fTS)))
    (lTS : K.lookup fTS = some ⟨ocTS, odTS, .func (PySem.W.fnOf "sum_texts" "sum_texts" (defArgs sTs) (defBody sTs) (defScope sTs) .none kVTS dcTS pmTS anTS cdTS ctTS), slTS⟩)
    (cTS : PySem.W.codeIn K cdTS "sum_texts" = true)
    (kTS : PySem.W.keepIn K (.ref fTS) = true)
    (aWR : PySem.W.nsIn K mainGlobals "wishes_right_in" = some (some (.ref fWR)))
    (lWR : K.lookup fWR = some ⟨ocWR, odWR, .func (PySem.W.fnOf "wishes_right_in" "wishes_right_in" (defArgs sWr) (defBody sWr) (defScope sWr) .none kVWR dcWR pmWR anWR cdWR ctWR), slWR⟩)
    (cWR : PySem.W.codeIn K cdWR "wishes_right_in" = true)
    (kWR : PySem.W.keepIn K (.ref fWR) = true)
    (aPO : PySem.W.nsIn K mainGlobals "parts_of" = some (some (.ref fPO)))
    (lPO : K.lookup fPO = some ⟨ocPO, odPO, .func (PySem.W.fnOf "parts_of" "parts_of" (defArgs sPo) (defBody sPo) (defScope sPo) .none kVPO dcPO pmPO anPO cdPO ctPO), slPO⟩)
    (cPO : PySem.W.codeIn K cdPO "parts_of" = true)
    (kPO : PySem.W.keepIn K (.ref fPO) = true)
    (aGP : PySem.W.nsIn K mainGlobals "gather_parts" = some (some (.ref fGP)))
    (lGP : K.lookup fGP = some ⟨ocGP, odGP, .func (PySem.W.fnOf "gather_parts" "gather_parts" (defArgs sGp) (defBody sGp) (defScope sGp) .none kVGP dcGP pmGP anGP cdGP ctGP), slGP⟩)
    (cGP : PySem.W.codeIn K cdGP "gather_parts" = true)
    (kGP : PySem.W.keepIn K (.ref fGP) = true)
    (aOT : PySem.W.nsIn K mainGlobals "opened_things" = some (some (.ref fOT)))
    (lOT : K.lookup fOT = some ⟨ocOT, odOT, .func (PySem.W.fnOf "opened_things" "opened_things" (defArgs sOt) (defBody sOt) (defScope sOt) .none kVOT dcOT pmOT anOT cdOT ctOT), slOT⟩)
    (cOT : PySem.W.codeIn K cdOT "opened_things" = true)
    (kOT : PySem.W.keepIn K (.ref fOT) = true)
    (aOD : PySem.W.nsIn K mainGlobals "opened" = some (some (.ref fOD)))
    (lOD : K.lookup fOD = some ⟨ocOD, odOD, .func (PySem.W.fnOf "opened" "opened" (defArgs sOd) (defBody sOd) (defScope sOd) .none kVOD dcOD pmOD anOD cdOD ctOD), slOD⟩)
    (cOD : PySem.W.codeIn K cdOD "opened" = true)
    (kOD : PySem.W.keepIn K (.ref fOD) = true)
    (aDR : PySem.W.nsIn K mainGlobals "_law_draw" = some (some (.ref fDR)))
    (lDR : K.lookup fDR = some ⟨ocDR, odDR, .func (PySem.W.fnOf "_law_draw" "_law_draw" (defArgs sDraw) (defBody sDraw) (defScope sDraw) .none kVDR dcDR pmDR anDR cdDR ctDR), slDR⟩)
    (cDR : PySem.W.codeIn K cdDR "_law_draw" = true)
    (kDR : PySem.W.keepIn K (.ref fDR) = true)
    (aTE : PySem.W.nsIn K mainGlobals "_law_term" = some (some (.ref fTE)))
    (lTE : K.lookup fTE = some ⟨ocTE, odTE, .func (PySem.W.fnOf "_law_term" "_law_term" (defArgs sTerm) (defBody sTerm) (defScope sTerm) .none kVTE dcTE pmTE anTE cdTE ctTE), slTE⟩)
    (cTE : PySem.W.codeIn K cdTE "_law_term" = true)
    (kTE : PySem.W.keepIn K (.ref fTE) = true)
    (aSH : PySem.W.nsIn K mainGlobals "_law_share" = some (some (.ref fSH)))
    (lSH : K.lookup fSH = some ⟨ocSH, odSH, .func (PySem.W.fnOf "_law_share" "_law_share" (defArgs sShare) (defBody sShare) (defScope sShare) .none kVSH dcSH pmSH anSH cdSH ctSH), slSH⟩)
    (cSH : PySem.W.codeIn K cdSH "_law_share" = true)
    (kSH : PySem.W.keepIn K (.ref fSH) = true)
    (aAT : PySem.W.nsIn K mainGlobals "_law_atom" = some (some (.ref fAT)))
    (lAT : K.lookup fAT = some ⟨ocAT, odAT, .func (PySem.W.fnOf "_law_atom" "_law_atom" (defArgs sAtom) (defBody sAtom) (defScope sAtom) .none kVAT dcAT pmAT anAT cdAT ctAT), slAT⟩)
    (cAT : PySem.W.codeIn K cdAT "_law_atom" = true)
    (kAT : PySem.W.keepIn K (.ref fAT) = true)
    (aWI : PySem.W.nsIn K mainGlobals "_law_wish" = some (some (.ref fWI)))
    (lWI : K.lookup fWI = some ⟨ocWI, odWI, .func (PySem.W.fnOf "_law_wish" "_law_wish" (defArgs sWish) (defBody sWish) (defScope sWish) .none kVWI dcWI pmWI anWI cdWI ctWI), slWI⟩)
    (cWI : PySem.W.codeIn K cdWI "_law_wish" = true)
    (kWI : PySem.W.keepIn K (.ref fWI) = true)
    (aWS : PySem.W.nsIn K mainGlobals "_law_wishes" = some (some (.ref fWS)))
    (lWS : K.lookup fWS = some ⟨ocWS, odWS, .func (PySem.W.fnOf "_law_wishes" "_law_wishes" (defArgs sWishes) (defBody sWishes) (defScope sWishes) .none kVWS dcWS pmWS anWS cdWS ctWS), slWS⟩)
    (cWS : PySem.W.codeIn K cdWS "_law_wishes" = true)
    (kWS : PySem.W.keepIn K (.ref fWS) = true)
    (aLP : PySem.W.nsIn K mainGlobals "_law_parts" = some (some (.ref fLP)))
    (lLP : K.lookup fLP = some ⟨ocLP, odLP, .func (PySem.W.fnOf "_law_parts" "_law_parts" (defArgs sParts) (defBody sParts) (defScope sParts) .none kVLP dcLP pmLP anLP cdLP ctLP), slLP⟩)
    (cLP : PySem.W.codeIn K cdLP "_law_parts" = true)
    (kLP : PySem.W.keepIn K (.ref fLP) = true)
    (aLA : PySem.W.nsIn K mainGlobals "law" = some (some (.ref fLA)))
    (lLA : K.lookup fLA = some ⟨ocLA, odLA, .func (PySem.W.fnOf "law" "law" (defArgs sLaw) (defBody sLaw) (defScope sLaw) .none kVLA dcLA pmLA anLA cdLA ctLA), slLA⟩)
    (cLA : PySem.W.codeIn K cdLA "law" = true)
    (kLA : PySem.W.keepIn K (.ref fLA) = true)
    (z_abs : PySem.W.nsIn K mainGlobals "abs" = some none)
    (z_len : PySem.W.nsIn K mainGlobals "len" = some none)
    (z_range : PySem.W.nsIn K mainGlobals "range" = some none)
    (z_isinstance : PySem.W.nsIn K mainGlobals "isinstance" = some none)
    (z_tuple : PySem.W.nsIn K mainGlobals "tuple" = some none)
    (z_int : PySem.W.nsIn K mainGlobals "int" = some none)
    (z_bool : PySem.W.nsIn K mainGlobals "bool" = some none)
    (z_list : PySem.W.nsIn K mainGlobals "list" = some none)
    (z_str : PySem.W.nsIn K mainGlobals "str" = some none)
    (z_all : PySem.W.nsIn K mainGlobals "all" = some none)
    (z_any : PySem.W.nsIn K mainGlobals "any" = some none)
    (z_sum : PySem.W.nsIn K mainGlobals "sum" = some none)
    (z_zip : PySem.W.nsIn K mainGlobals "zip" = some none)
    (z_sorted : PySem.W.nsIn K mainGlobals "sorted" = some none)
    (z_ValueError : PySem.W.nsIn K mainGlobals "ValueError" = some none)
    (z_reversed : PySem.W.nsIn K mainGlobals "reversed" = some none)
    (aPI : PySem.W.nsIn K mainGlobals "PIECE" = some (some (.int 64 tPI)))
    (aPW : PySem.W.nsIn K mainGlobals "PIECE_WORTH" = some (some (.int ((PW : Nat) : Int) tPW)))
    (aFW : PySem.W.nsIn K mainGlobals "FIRST_WORDS" = some (some (.ref FW)))
    (lFW : K.lookup FW = some ⟨.type "dict", none, .dict eFW nFW, #[]⟩)
    (w1 : PySem.W.nsIn K FW "not" = some (some (.str "not" u1)))
    (w2 : PySem.W.nsIn K FW "both" = some (some (.str "all" u2)))
    (w3 : PySem.W.nsIn K FW "either" = some (some (.str "any" u3)))
    (w4 : PySem.W.nsIn K FW "like" = some (some (.str "like" u4)))
    (w5 : PySem.W.nsIn K FW "most" = some (some (.str "most" u5)))
    (kFW : PySem.W.KeysLit w.params eFW.toList) :
    ∃ fd : FuncData, (∀ (s : Shared) (v : Value), BindsTo s fd ⟨[v], []⟩ [("_law_script", v)]) ∧ ∀ base : Heap, K.In base → base.Ns mainGlobals mg → FnOk l.prog w K mg base CX0 27 fa fd ["_law_script"] (spLaw K) := by
  have e := hfa.symm.trans (PySem.W.mg_of X G aLA)
  cases e
  have B : Blt mg := ⟨PySem.W.mg_none_of X G z_abs, PySem.W.mg_none_of X G z_len, PySem.W.mg_none_of X G z_range, PySem.W.mg_none_of X G z_isinstance, PySem.W.mg_none_of X G z_tuple, PySem.W.mg_none_of X G z_int, PySem.W.mg_none_of X G z_bool, PySem.W.mg_none_of X G z_list, PySem.W.mg_none_of X G z_str, PySem.W.mg_none_of X G z_all, PySem.W.mg_none_of X G z_any, PySem.W.mg_none_of X G z_sum, PySem.W.mg_none_of X G z_zip, PySem.W.mg_none_of X G z_sorted, PySem.W.mg_none_of X G z_ValueError, PySem.W.mg_none_of X G z_reversed⟩
  have FFG := fun_mk (st := sFg) lFG cFG kFG
  have bFG := FFG.binds (ps := ["number"]) fun _ _ _ _ _ _ us hl => match us, hl with | [_], _ => rfl
  have mFG := PySem.W.mg_of X G aFG
  have FFT := fun_mk (st := sFt) lFT cFT kFT
  have bFT := FFT.binds (ps := ["one"]) fun _ _ _ _ _ _ us hl => match us, hl with | [_], _ => rfl
  have mFT := PySem.W.mg_of X G aFT
  have FBR := fun_mk (st := sBr) lBR cBR kBR
  have bBR := FBR.binds (ps := ["words"]) fun _ _ _ _ _ _ us hl => match us, hl with | [_], _ => rfl
  have mBR := PySem.W.mg_of X G aBR
  have FST := fun_mk (st := sSt) lST cST kST
  have bST := FST.binds (ps := ["term"]) fun _ _ _ _ _ _ us hl => match us, hl with | [_], _ => rfl
  have mST := PySem.W.mg_of X G aST
  have FSW := fun_mk (st := sSw) lSW cSW kSW
  have bSW := FSW.binds (ps := ["wish"]) fun _ _ _ _ _ _ us hl => match us, hl with | [_], _ => rfl
  have mSW := PySem.W.mg_of X G aSW
  have FIN := fun_mk (st := sIn) lIN cIN kIN
  have bIN := FIN.binds (ps := ["wish"]) fun _ _ _ _ _ _ us hl => match us, hl with | [_], _ => rfl
  have mIN := PySem.W.mg_of X G aIN
  have FTS := fun_mk (st := sTs) lTS cTS kTS
  have bTS := FTS.binds (ps := ["pairs"]) fun _ _ _ _ _ _ us hl => match us, hl with | [_], _ => rfl
  have mTS := PySem.W.mg_of X G aTS
  have FWR := fun_mk (st := sWr) lWR cWR kWR
  have bWR := FWR.binds (ps := ["wish"]) fun _ _ _ _ _ _ us hl => match us, hl with | [_], _ => rfl
  have mWR := PySem.W.mg_of X G aWR
  have FPO := fun_mk (st := sPo) lPO cPO kPO
  have bPO := FPO.binds (ps := ["wish"]) fun _ _ _ _ _ _ us hl => match us, hl with | [_], _ => rfl
  have mPO := PySem.W.mg_of X G aPO
  have FGP := fun_mk (st := sGp) lGP cGP kGP
  have bGP := FGP.binds (ps := ["wish", "found"]) fun _ _ _ _ _ _ us hl => match us, hl with | [_, _], _ => rfl
  have mGP := PySem.W.mg_of X G aGP
  have FOT := fun_mk (st := sOt) lOT cOT kOT
  have bOT := FOT.binds (ps := ["wishes"]) fun _ _ _ _ _ _ us hl => match us, hl with | [_], _ => rfl
  have mOT := PySem.W.mg_of X G aOT
  have FOD := fun_mk (st := sOd) lOD cOD kOD
  have bOD := FOD.binds (ps := ["wishes"]) fun _ _ _ _ _ _ us hl => match us, hl with | [_], _ => rfl
  have mOD := PySem.W.mg_of X G aOD
  have FDR := fun_mk (st := sDraw) lDR cDR kDR
  have bDR := FDR.binds (ps := ["_law_script", "_law_k", "_law_many"]) fun _ _ _ _ _ _ us hl => match us, hl with | [_, _, _], _ => rfl
  have mDR := PySem.W.mg_of X G aDR
  have FTE := fun_mk (st := sTerm) lTE cTE kTE
  have bTE := FTE.binds (ps := ["_law_script", "_law_k"]) fun _ _ _ _ _ _ us hl => match us, hl with | [_, _], _ => rfl
  have mTE := PySem.W.mg_of X G aTE
  have FSH := fun_mk (st := sShare) lSH cSH kSH
  have bSH := FSH.binds (ps := ["_law_script", "_law_k"]) fun _ _ _ _ _ _ us hl => match us, hl with | [_, _], _ => rfl
  have mSH := PySem.W.mg_of X G aSH
  have FAT := fun_mk (st := sAtom) lAT cAT kAT
  have bAT := FAT.binds (ps := ["_law_script", "_law_k"]) fun _ _ _ _ _ _ us hl => match us, hl with | [_, _], _ => rfl
  have mAT := PySem.W.mg_of X G aAT
  have FWI := fun_mk (st := sWish) lWI cWI kWI
  have bWI := FWI.binds (ps := ["_law_script", "_law_k", "_law_deep", "_law_atoms"]) fun _ _ _ _ _ _ us hl => match us, hl with | [_, _, _, _], _ => rfl
  have mWI := PySem.W.mg_of X G aWI
  have FWS := fun_mk (st := sWishes) lWS cWS kWS
  have bWS := FWS.binds (ps := ["_law_script", "_law_base"]) fun _ _ _ _ _ _ us hl => match us, hl with | [_, _], _ => rfl
  have mWS := PySem.W.mg_of X G aWS
  have FLP := fun_mk (st := sParts) lLP cLP kLP
  have bLP := FLP.binds (ps := ["_law_wish_here"]) fun _ _ _ _ _ _ us hl => match us, hl with | [_], _ => rfl
  have mLP := PySem.W.mg_of X G aLP
  have FLA := fun_mk (st := sLaw) lLA cLA kLA
  refine ⟨PySem.W.fnOf "law" "law" (defArgs sLaw) (defBody sLaw) (defScope sLaw) .none kVLA dcLA pmLA anLA cdLA ctLA, fun s v => .of_eq rfl, fun base _ _ => ?_⟩
  have mP := PySem.W.mg_of X G aPI
  have mW := PySem.W.mg_of X G aPW
  have mFW := PySem.W.mg_of X G aFW
  have hFW : Tw.FwK w K FW := ⟨⟨_, _, lFW, kFW⟩, fun k k' h => by
    rcases h with ⟨rfl, rfl⟩ | ⟨rfl, rfl⟩ | ⟨rfl, rfl⟩ | ⟨rfl, rfl⟩ | ⟨rfl, rfl⟩
    · exact ⟨_, w1⟩
    · exact ⟨_, w2⟩
    · exact ⟨_, w3⟩
    · exact ⟨_, w4⟩
    · exact ⟨_, w5⟩⟩
  have gFG : FnOk l.prog w K mg base CX0 1 fFG _ ["number"] spFg := ok_fg FFG B mP mW
  have gFT : FnOk l.prog w K mg base CX0 2 fFT _ ["one"] (spFt K) := ok_ft FFT B gFG kFG bFG mFG
  have gBR : FnOk l.prog w K mg base CX0 1 fBR _ ["words"] (spBr K) := ok_br FBR
  have gST : FnOk l.prog w K mg base CX0 9 fST _ ["term"] (spSt 8) := ok_st FST bST mST FBR bBR mBR 8
  have gTS : FnOk l.prog w K mg base CX0 10 fTS _ ["pairs"] spTs := ok_ts FTS gST kST bST mST gFT kFT bFT mFT
  have gSW : FnOk l.prog w K mg base CX0 20 fSW _ ["wish"] (spSw 4) := ok_sw FSW kSW bSW mSW FIN kIN bIN mIN gBR kBR bBR mBR gST kST bST mST gFT kFT bFT mFT gTS kTS bTS mTS mFW hFW 4
  have gWR : FnOk l.prog w K mg base CX0 1 fWR _ ["wish"] spWr := ok_wr FWR B
  have gGP : FnOk l.prog w K mg base CX0 23 fGP _ ["wish", "found"] (spGp 3) := ok_gp FGP bGP mGP gWR kWR bWR mWR gSW kSW bSW mSW 3
  have gPO : FnOk l.prog w K mg base CX0 24 fPO _ ["wish"] spPo := ok_po FPO gGP kGP bGP mGP B
  have gOT : FnOk l.prog w K mg base CX0 25 fOT _ ["wishes"] spOt := ok_ot FOT B gPO kPO bPO mPO gSW kSW bSW mSW
  have gOD : FnOk l.prog w K mg base CX0 26 fOD _ ["wishes"] spOd := ok_od FOD B gOT kOT bOT mOT
  have gDR : FnOk l.prog w K mg base CX0 1 fDR _ ["_law_script", "_law_k", "_law_many"] (spDraw K) := ok_draw FDR B
  have gTE : FnOk l.prog w K mg base CX0 2 fTE _ ["_law_script", "_law_k"] (spTerm K) := ok_term FTE gDR kDR bDR mDR
  have gSH : FnOk l.prog w K mg base CX0 2 fSH _ ["_law_script", "_law_k"] (spShr K) := ok_shr FSH gDR kDR bDR mDR
  have gAT : FnOk l.prog w K mg base CX0 3 fAT _ ["_law_script", "_law_k"] (spAtom K) := ok_atom FAT B gDR kDR bDR mDR gTE kTE bTE mTE gSH kSH bSH mSH
  have gWI : FnOk l.prog w K mg base CX0 5 fWI _ ["_law_script", "_law_k", "_law_deep", "_law_atoms"] (spWish K 3) := ok_wish FWI bWI mWI B gDR kDR bDR mDR 3
  have gWS : FnOk l.prog w K mg base CX0 6 fWS _ ["_law_script", "_law_base"] (spWishes K) := ok_wishes FWS B gDR kDR bDR mDR gAT kAT bAT mAT gWI kWI bWI mWI
  have gLP : FnOk l.prog w K mg base CX0 4 fLP _ ["_law_wish_here"] (spLp 3) := ok_lp FLP bLP mLP 3
  exact ok_law FLA B gWS kWS bWS mWS gLP kLP bLP mLP gOD kOD bOD mOD
theorem walk {l : PySem.W.OpenLaw} {q : Program} {loose : List Str} {XP : (Str → Option Value) → Heap → Prop} {YP : World → Heap → Prop} {d : DefRec} {K : Params → PySem.W.Frag} (hn : l.most = some 63) (hdf : d.params.defaults = [])
    (hY : ∀ (w : World) (h : Heap), YP w h → (K w.params).In h)
    (F : ∀ (w : World) (mg : Str → Option Value) (fa : Addr) (h : Heap), (K w.params).In h → h.Ns mainGlobals mg → mg d.name = some (.ref fa) →
      ∃ fd : FuncData, (∀ (s : Shared) (u : Value), BindsTo s fd ⟨[u], []⟩ [("_law_script", u)]) ∧ ∀ base : Heap, (K w.params).In base → base.Ns mainGlobals mg → FnOk l.prog w (K w.params) mg base CX0 27 fa fd ["_law_script"] (spLaw (K w.params))) :
    PySem.W.WalkO q loose XP YP l.row.toRowW d [] (fun f vs => PySem.call f vs) :=
  L2.walk_of (n := 63) (k := 27) (x := "_law_script") (CX := fun _ => CX0) (sp := fun w => spLaw (K w.params)) hn (by decide) hdf ⟨rfl, by decide, by decide⟩ hY F (fun _ _ a ns hl _ hS => ⟨a, ns, rfl, hS, hl, fun _ => rfl⟩) fun _ _ _ _ _ z => z
end K77
def PySem.W.Fast.tw8064767851758714910 : Unit := ()
def PySem.W.Fast.tw8976491074483215203 : Unit := ()
def PySem.W.Fast.tw13041382317533687242 : Unit := ()
def PySem.W.Fast.tw14552360935814933717 : Unit := ()
def PySem.W.Fast.tw13001421639305645879 : Unit := ()
def PySem.W.Fast.tw18039061060183389236 : Unit := ()
def PySem.W.Fast.tw4266610535588097119 : Unit := ()
def PySem.W.Fast.tw1553061251442036552 : Unit := ()
open PySem PySem.W PyProof.Rows
set_option maxRecDepth 100000 in
set_option maxHeartbeats 0 in
theorem PySem.Challenge.cw_smallword_k77_opening_steps_holds : PySem.Challenge.rw_smallword_k77_opening_steps.Holds := by
  w_on; o_law; k_head; (case hw => w_witness2)
  k_fill
  refine K77.walk (l := PySem.Challenge.rw_smallword_k77_opening_steps) rfl rfl (fun w h Y => PySem.W.kIn_of Y) ?F
  case F =>
    intro w mg fa h KX G hmg
    refine' K77.all_mk KX G hmg ?aFG ?lFG ?cFG ?kFG ?aFT ?lFT ?cFT ?kFT ?aBR ?lBR ?cBR ?kBR ?aST ?lST ?cST ?kST ?aSW ?lSW ?cSW ?kSW ?aIN ?lIN ?cIN ?kIN ?aTS ?lTS ?cTS ?kTS ?aWR ?lWR ?cWR ?kWR ?aPO ?lPO ?cPO ?kPO ?aGP ?lGP ?cGP ?kGP ?aOT ?lOT ?cOT ?kOT ?aOD ?lOD ?cOD ?kOD ?aDR ?lDR ?cDR ?kDR ?aTE ?lTE ?cTE ?kTE ?aSH ?lSH ?cSH ?kSH ?aAT ?lAT ?cAT ?kAT ?aWI ?lWI ?cWI ?kWI ?aWS ?lWS ?cWS ?kWS ?aLP ?lLP ?cLP ?kLP ?aLA ?lLA ?cLA ?kLA ?z_abs ?z_len ?z_range ?z_isinstance ?z_tuple ?z_int ?z_bool ?z_list ?z_str ?z_all ?z_any ?z_sum ?z_zip ?z_sorted ?z_ValueError ?z_reversed ?aPI ?aPW ?aFW ?lFW ?w1 ?w2 ?w3 ?w4 ?w5 ?kFW
    (case aFG => k_is); (case lFG => k_is); (case cFG => k_is); (case kFG => k_is); (case aFT => k_is); (case lFT => k_is); (case cFT => k_is); (case kFT => k_is)
    (case aBR => k_is); (case lBR => k_is); (case cBR => k_is); (case kBR => k_is); (case aST => k_is); (case lST => k_is); (case cST => k_is); (case kST => k_is)
    (case aSW => k_is); (case lSW => k_is); (case cSW => k_is); (case kSW => k_is); (case aIN => k_is); (case lIN => k_is); (case cIN => k_is); (case kIN => k_is)
    (case aTS => k_is); (case lTS => k_is); (case cTS => k_is); (case kTS => k_is); (case aWR => k_is); (case lWR => k_is); (case cWR => k_is); (case kWR => k_is)
    (case aPO => k_is); (case lPO => k_is); (case cPO => k_is); (case kPO => k_is); (case aGP => k_is); (case lGP => k_is); (case cGP => k_is); (case kGP => k_is)
    (case aOT => k_is); (case lOT => k_is); (case cOT => k_is); (case kOT => k_is); (case aOD => k_is); (case lOD => k_is); (case cOD => k_is); (case kOD => k_is)
    (case aDR => k_is); (case lDR => k_is); (case cDR => k_is); (case kDR => k_is); (case aTE => k_is); (case lTE => k_is); (case cTE => k_is); (case kTE => k_is)
    (case aSH => k_is); (case lSH => k_is); (case cSH => k_is); (case kSH => k_is); (case aAT => k_is); (case lAT => k_is); (case cAT => k_is); (case kAT => k_is)
    (case aWI => k_is); (case lWI => k_is); (case cWI => k_is); (case kWI => k_is); (case aWS => k_is); (case lWS => k_is); (case cWS => k_is); (case kWS => k_is)
    (case aLP => k_is); (case lLP => k_is); (case cLP => k_is); (case kLP => k_is); (case aLA => k_is); (case lLA => k_is); (case cLA => k_is); (case kLA => k_is)
    (case z_abs => k_is); (case z_len => k_is); (case z_range => k_is); (case z_isinstance => k_is); (case z_tuple => k_is); (case z_int => k_is); (case z_bool => k_is); (case z_list => k_is)
    (case z_str => k_is); (case z_all => k_is); (case z_any => k_is); (case z_sum => k_is); (case z_zip => k_is); (case z_sorted => k_is); (case z_ValueError => k_is); (case z_reversed => k_is)
    (case aPI => k_is); (case aPW => k_is); (case aFW => k_is); (case lFW => k_is); (case w1 => k_is); (case w2 => k_is); (case w3 => k_is); (case w4 => k_is)
    (case w5 => k_is); (case kFW => k_keys)


