import PyProof.Rows.All
import Wide.All
import OpenK.AllK
import Wide.FinOn
import Lean
import PyProof.EqAt
import PyProof.EqKinds
import PyProof.TupleCall
import PyProof.NeKinds
import KE.KDictList
import KE.KDictLaws
import KE.LcSums
import KE.KMinKey
import PySem.Challenge.RW_smallword_k06_within_and_depth
set_option Elab.async false
set_option linter.all false
set_option maxRecDepth 100000
namespace L2
open PySem PySem.Spec PyProof.Rows
abbrev Key := Sum Int Str
def keyIs : Key → Value → Bool
  | .inl k, v => Value.isInt k v
  | .inr x, v => Value.isStrOf x v
def keyH (w : World) : Key → Int
  | .inl k => hashInt k
  | .inr x => hashStr w x
theorem keyIs_shape : ∀ {k : Key} {v : Value}, keyIs k v = true → (∃ i t, k = Sum.inl i ∧ v = Value.int i t) ∨ (∃ x t, k = Sum.inr x ∧ v = Value.str x t)
  | .inl i, v, h => by
    obtain ⟨t, e⟩ := Value.isInt_shape (k := i) (v := v) h
    exact .inl ⟨i, t, rfl, e⟩
  | .inr x, v, h => by
    obtain ⟨t, e⟩ := Value.isStrOf_shape (x := x) (v := v) h
    exact .inr ⟨x, t, rfl, e⟩
theorem keyIs_int (i : Int) (t : Tok) : keyIs (.inl i) (.int i t) = true := by simp [keyIs, Value.isInt]
theorem keyIs_str (x : Str) (t : Tok) : keyIs (.inr x) (.str x t) = true := by simp [keyIs, Value.isStrOf]
theorem key_ll (a b : Int) : decide ((Sum.inl a : Key) = Sum.inl b) = (a == b) := by
  by_cases e : a = b
  · subst e; simp
  · have h : ¬ (Sum.inl a : Key) = Sum.inl b := fun q => e (Sum.inl.inj q)
    rw [decide_eq_false h]
    exact (beq_eq_false_iff_ne.mpr e).symm
theorem key_rr (a b : Str) : decide ((Sum.inr a : Key) = Sum.inr b) = decide (a = b) := by
  by_cases e : a = b
  · subst e; simp
  · have h : ¬ (Sum.inr a : Key) = Sum.inr b := fun q => e (Sum.inr.inj q)
    rw [decide_eq_false h, decide_eq_false e]
theorem key_lr (a : Int) (b : Str) : decide ((Sum.inl a : Key) = Sum.inr b) = false := decide_eq_false (fun q => nomatch q)
theorem key_rl (a : Str) (b : Int) : decide ((Sum.inr a : Key) = Sum.inl b) = false := decide_eq_false (fun q => nomatch q)

def mixKind (prog : Program) (w : World) : PySem.KeyKind prog w Key where
  is := keyIs
  hash := keyH w
  inj := fun v a b ha hb => by
    rcases keyIs_shape ha with ⟨i, t, rfl, rfl⟩ | ⟨x, t, rfl, rfl⟩
    · rcases keyIs_shape hb with ⟨j, u, rfl, e⟩ | ⟨y, u, rfl, e⟩
      · injection e with e1 _; rw [e1]
      · exact nomatch e
    · rcases keyIs_shape hb with ⟨j, u, rfl, e⟩ | ⟨y, u, rfl, e⟩
      · exact nomatch e
      · injection e with e1 _; rw [e1]
  byValue := fun k v h => by
    rcases keyIs_shape h with ⟨i, t, rfl, rfl⟩ | ⟨x, t, rfl, rfl⟩ <;> rfl
  pyHash := fun hv h => by
    rcases keyIs_shape hv with ⟨i, t, rfl, rfl⟩ | ⟨x, t, rfl, rfl⟩
    · exact wpAny_pyHash_int h
    · exact wpAny_pyHash_str h
  eqBool := fun hu hv h => by
    rcases keyIs_shape hu with ⟨i, t, rfl, rfl⟩ | ⟨x, t, rfl, rfl⟩
    · rcases keyIs_shape hv with ⟨j, u, rfl, rfl⟩ | ⟨y, u, rfl, rfl⟩
      · rw [key_ll] at h; exact wpAny_eqBool_int h
      · rw [key_lr] at h; exact SeqAt.EqAt.int_str i t y u _ _ _ _ h
    · rcases keyIs_shape hv with ⟨j, u, rfl, rfl⟩ | ⟨y, u, rfl, rfl⟩
      · rw [key_rl] at h; exact SeqAt.EqAt.str_int x t j u _ _ _ _ h
      · rw [key_rr] at h; exact wpAny_eqBool_str h
  «strs» := fun k x t v h => by
    rcases keyIs_shape h with ⟨i, u, rfl, e⟩ | ⟨y, u, rfl, e⟩
    · exact nomatch e
    · injection e with e1 _
      subst e1
      cases v <;> rfl

theorem mixKind_int (prog : Program) (w : World) (i : Int) (t : Tok) : (mixKind prog w).is (.inl i) (.int i t) = true := keyIs_int i t
theorem mixKind_str (prog : Program) (w : World) (x : Str) (t : Tok) : (mixKind prog w).is (.inr x) (.str x t) = true := keyIs_str x t
end L2
namespace L2
open PySem PySem.Spec PyProof.Rows
inductive V where
  | non | bl (b : Bool) | int (i : Int) | str (x : Str) | byt (b : Array UInt8) | flt (b : UInt64) | ref (a : Addr) | ty (n : String)
  deriving DecidableEq

def RelV : V → Value → Prop
  | .non, u => u = Value.none
  | .bl b, u => u = Value.bool b
  | .int i, u => ∃ t, u = Value.int i t
  | .str x, u => ∃ t, u = Value.str x t
  | .byt b, u => ∃ t, u = Value.bytes b t
  | .flt b, u => ∃ t, u = Value.float b t
  | .ref a, u => u = Value.ref a
  | .ty n, u => u = Value.type n

abbrev Vals : List V → List Value → Prop := Paired RelV
theorem Vals.length {xs : List V} {us : List Value} (r : Vals xs us) : xs.length = us.length := Paired.length r
theorem Vals.get : ∀ {xs : List V} {us : List Value} {i : Nat} {x : V}, Vals xs us → xs[i]? = some x → ∃ u, us[i]? = some u ∧ RelV x u
  | _, _, _, _, .nil, e => by simp at e
  | _, _, 0, _, .cons r _, e => by simp at e; subst e; exact ⟨_, rfl, r⟩
  | _, _, i + 1, x, .cons _ t, e => by
    obtain ⟨u, h1, h2⟩ := Vals.get (i := i) (x := x) t (by simpa using e)
    exact ⟨u, by simpa using h1, h2⟩
theorem Vals.set {x : V} {u : Value} (r : RelV x u) : ∀ {xs : List V} {us : List Value} (i : Nat), Vals xs us → Vals (xs.set i x) (us.set i u)
  | _, _, _, .nil => .nil
  | _, _, 0, .cons _ t => .cons r t
  | _, _, i + 1, .cons q t => .cons q (Vals.set r i t)
theorem Vals.append : ∀ {xs ys : List V} {us ws : List Value}, Vals xs us → Vals ys ws → Vals (xs ++ ys) (us ++ ws)
  | _, _, _, _, .nil, s => s
  | _, _, _, _, .cons r t, s => .cons r (Vals.append t s)
theorem Vals.take : ∀ {xs : List V} {us : List Value} (n : Nat), Vals xs us → Vals (xs.take n) (us.take n)
  | _, _, 0, _ => .nil
  | _, _, _ + 1, .nil => .nil
  | _, _, n + 1, .cons r t => .cons r (Vals.take n t)
theorem Vals.drop : ∀ {xs : List V} {us : List Value} (n : Nat), Vals xs us → Vals (xs.drop n) (us.drop n)
  | _, _, 0, r => r
  | _, _, _ + 1, .nil => .nil
  | _, _, n + 1, .cons _ t => Vals.drop n t
def RelO : Option V → Option Value → Prop
  | some v, some u => RelV v u
  | none, none => True
  | _, _ => False
def KV {κ : Type} : List (κ × V) → List (κ × Value) → Prop := Paired fun (p : κ × V) (q : κ × Value) => p.1 = q.1 ∧ RelV p.2 q.2

def kV : Key → V
  | .inl i => .int i
  | .inr x => .str x

inductive HO where
  /-- a list -/
  | lst (xs : List V)
  /-- a tuple (never changes) -/
  | tup (xs : List V)
  /-- a dict whose keys are ints and texts; one whose keys are tuples of ints and texts (the empty one is both) -/
  | dK (kvs : List (Key × V)) | dT (kvs : List (List Key × V))
  /-- a set of ints: its members, its size -/
  | set (S : Int → Bool) (n : Nat)
  /-- an instance of the class at C, its dict at dx, its attributes -/
  | ins (C dx : Addr) (fs : List (Str × V))
  /-- the dict of the instance at x -/
  | own (x : Addr)
  /-- the dict of an exception -/
  | xd (fs : List (Str × V))
  /-- a bound method, f of x -/
  | met (f x : Addr)
  /-- a range object lo, lo + 1, .. below hi -/
  | rng (lo hi : Int)
  /-- a thing that is known to the object (the script; a dict while a loop walks it): read, never written while it is so -/
  | frz (o : Obj) (u : HO)
  /-- a code object's table -/
  | tbl (ps : Array Value)
  /-- any other thing, by what is true of its one object (a def of one's own: SetO a S n := HO.ext fun h => ..) -/
  | ext (φ : Heap → Prop)

abbrev Hp := Addr → Option HO
def upd (H : Hp) (a : Addr) (o : HO) : Hp := fun b => if b = a then some o else H b
theorem upd_same {H : Hp} {a : Addr} {o : HO} : upd H a o a = some o := by unfold upd; rw [if_pos rfl]
theorem upd_ne {H : Hp} {a b : Addr} {o : HO} (h : b ≠ a) : upd H a o b = H b := by unfold upd; rw [if_neg h]
theorem ne_of {H : Hp} {a b : Addr} {o u : HO} (h : H a = some o) (h' : H b = some u) (d : o ≠ u) : a ≠ b := by
  intro e; subst e; rw [h] at h'; exact d (Option.some.inj h')
theorem ne_of_none {H : Hp} {a b : Addr} {o : HO} (h : H a = some o) (h' : H b = none) : a ≠ b := by
  intro e; subst e; rw [h] at h'; cases h'

section
variable (P : Program) (w : World)
def ObjOk (H : Hp) (h : Heap) (a : Addr) : HO → Prop
  | .lst xs => xs.length ≤ sizeLine ∧ ∃ (its : List Value) (n : Nat), Vals xs its ∧ h.get? a = some { cls := .type "list", data := .seq its.toArray n }
  | .tup xs => xs.length ≤ sizeLine ∧ ∃ its : List Value, Vals xs its ∧ IsTup h a its.toArray
  | .dK kvs => kvs.length ≤ sizeLine ∧ (a == sysModules) = false ∧ ∃ vs, KV kvs vs ∧ h.DictOf (mixKind P w) a vs
  | .dT kvs => kvs.length ≤ sizeLine ∧ (a == sysModules) = false ∧ ∃ xs : List (List Key × Addr × Value),
      Paired (fun (p : List Key × V) (q : List Key × Addr × Value) => p.1 = q.1 ∧ H q.2.1 = some (.tup (p.1.map kV)) ∧ RelV p.2 q.2.2) kvs xs ∧
      ∃ o es ep, h.get? a = some o ∧ o.ExactDict ∧ o.data = .dict es ep ∧ es.toList = xs.map (entryOfKey (tupleKind (mixKind P w))) ∧ (xs.map (·.1)).Nodup
  | .set S n => h.SetOf (intKind P w) a S n
  | .ins C dx fs => H dx = some (.own a) ∧ fs.length ≤ 1000 ∧ dx ≠ a ∧ h.get? a = some (PySem.W.instObj C dx) ∧
      ∃ mA, h.Ns1 dx mA ∧ (∀ f, RelO (fs.lookup f) (mA f)) ∧ PySem.Within mA (fs.map (·.1))
  | .own _ => ∃ o, h.get? a = some o
  | .xd fs => ∃ mA, h.Ns1 a mA ∧ ∀ f, RelO (fs.lookup f) (mA f)
  | .rng lo hi => ∃ t u v, h.get? a = some { cls := .type "range", data := .fields #[.int lo t, .int hi u, .int 1 v] }
  | .frz o u => h.get? a = some o ∧ ObjOk H h a u
  | .tbl ps => h.get? a = some { cls := .none, data := .fields ps }
  | .met f x => h.get? a = some (PySem.W.methodObj (.ref f) (.ref x))
  | .ext φ => φ h ∧ (∃ o, h.get? a = some o) ∧ ∀ h1 h2 : Heap, φ h1 → (∀ o, h1.get? a = some o → h2.get? a = some o) → φ h2
def HOk (H : Hp) (h : Heap) : Prop := ∀ a o, H a = some o → ObjOk P w H h a o
end
section
variable {P : Program} {w : World} {H H' : Hp} {h h' : Heap} {a : Addr} {o : HO}
theorem ObjOk.lt (x : ObjOk P w H h a o) : a < h.objs.size := by
  cases o with
  | lst xs => obtain ⟨_, _, _, _, e⟩ := x; exact Heap.lt_size e
  | tup xs => obtain ⟨_, _, _, p⟩ := x; exact p.lt
  | dK kvs => obtain ⟨_, _, _, _, o, _, _, e, _⟩ := x; exact Heap.lt_size e
  | dT kvs => obtain ⟨_, _, _, _, o, _, _, e, _⟩ := x; exact Heap.lt_size e
  | set S n => obtain ⟨o, _, _, _, e, _⟩ := x; exact Heap.lt_size e
  | ins C dx fs => obtain ⟨_, _, _, e, _⟩ := x; exact Heap.lt_size e
  | own y => obtain ⟨_, e⟩ := x; exact Heap.lt_size e
  | xd fs => obtain ⟨_, ⟨_, _, _, e, _⟩, _⟩ := x; exact Heap.lt_size e
  | rng lo hi => obtain ⟨_, _, _, e⟩ := x; exact Heap.lt_size e
  | frz ob u => obtain ⟨e, _⟩ := x; exact Heap.lt_size e
  | tbl ps => exact Heap.lt_size (show h.get? a = some _ from x)
  | met f y => exact Heap.lt_size (show h.get? a = some _ from x)
  | ext φ => obtain ⟨_, ⟨_, e⟩, _⟩ := x; exact Heap.lt_size e
theorem Paired.mapP {α β : Type} {F G : α → β → Prop} : ∀ {l₁ : List α} {l₂ : List β}, Paired F l₁ l₂ → (∀ a b, F a b → G a b) → Paired G l₁ l₂
  | _, _, .nil, _ => .nil
  | _, _, .cons r t, f => .cons (f _ _ r) (Paired.mapP t f)
theorem ObjOk.stay (x : ObjOk P w H h a o) (k : ∀ b u, (b = a ∨ H b = some (.own a)) → h.get? b = some u → h'.get? b = some u)
    (ho : ∀ b, H b = some (.own a) → H' b = some (.own a)) (ht : ∀ b xs, H b = some (.tup xs) → H' b = some (.tup xs)) : ObjOk P w H' h' a o := by
  induction o with
  | lst xs => obtain ⟨z, its, n, r, e⟩ := x; exact ⟨z, its, n, r, k _ _ (.inl rfl) e⟩
  | tup xs => obtain ⟨z, its, r, ob, e, c⟩ := x; exact ⟨z, its, r, ob, k _ _ (.inl rfl) e, c⟩
  | dK kvs => obtain ⟨z, y, vs, r, ob, es, ep, e, c⟩ := x; exact ⟨z, y, vs, r, ob, es, ep, k _ _ (.inl rfl) e, c⟩
  | dT kvs =>
    obtain ⟨z, y, xs, r, ob, es, ep, e, c⟩ := x
    exact ⟨z, y, xs, Paired.mapP r fun p q z => ⟨z.1, ht _ _ z.2.1, z.2.2⟩, ob, es, ep, k _ _ (.inl rfl) e, c⟩
  | set S n => obtain ⟨ob, es, ep, t, e, c⟩ := x; exact ⟨ob, es, ep, t, k _ _ (.inl rfl) e, c⟩
  | ins C dx fs =>
    obtain ⟨d, z, ne, e, mA, ⟨od, es, ep, e2, c⟩, r⟩ := x
    exact ⟨ho _ d, z, ne, k _ _ (.inl rfl) e, mA, ⟨od, es, ep, k _ _ (.inr d) e2, c⟩, r⟩
  | own y => obtain ⟨ob, e⟩ := x; exact ⟨ob, k _ _ (.inl rfl) e⟩
  | xd fs => obtain ⟨mA, ⟨od, es, ep, e, c⟩, r⟩ := x; exact ⟨mA, ⟨od, es, ep, k _ _ (.inl rfl) e, c⟩, r⟩
  | rng lo hi => obtain ⟨t, u, v, e⟩ := x; exact ⟨t, u, v, k _ _ (.inl rfl) e⟩
  | frz ob u ih => obtain ⟨e, q⟩ := x; exact ⟨k _ _ (.inl rfl) e, ih q⟩
  | tbl ps =>
    have e : h.get? a = some { cls := .none, data := .fields ps } := x
    show h'.get? a = some { cls := .none, data := .fields ps }
    exact k a _ (.inl rfl) e
  | met f y =>
    have e : h.get? a = some (PySem.W.methodObj (.ref f) (.ref y)) := x
    show h'.get? a = some (PySem.W.methodObj (.ref f) (.ref y))
    exact k a _ (.inl rfl) e
  | ext φ => obtain ⟨p, ⟨o, e⟩, st⟩ := x; exact ⟨st _ _ p fun o q => k _ _ (.inl rfl) q, ⟨o, k _ _ (.inl rfl) e⟩, st⟩
theorem HOk.lt (x : HOk P w H h) (e : H a = some o) : a < h.objs.size := (x a o e).lt
theorem HOk.fresh (x : HOk P w H h) (e : h.objs.size ≤ a) : H a = none := by
  cases q : H a with
  | none => rfl
  | some u => exact absurd (Nat.lt_of_lt_of_le (x.lt q) e) (Nat.lt_irrefl _)
theorem HOk.kept (x : HOk P w H h) (k : ∀ b u, h.get? b = some u → h'.get? b = some u) : HOk P w H h' := fun a o e =>
  (x a o e).stay (fun b u _ q => k b u q) (fun _ q => q) fun _ _ q => q
theorem HOk.laid (x : HOk P w H h) (k : ∀ b u, h.get? b = some u → h'.get? b = some u) (hp : h.objs.size ≤ a) (new : ObjOk P w (upd H a o) h' a o) : HOk P w (upd H a o) h' := fun b u e => by
  have hn := x.fresh hp
  by_cases hb : b = a
  · subst hb; rw [upd_same] at e; cases e; exact new
  · rw [upd_ne hb] at e
    exact (x b u e).stay (fun c v _ q => k c v q) (fun c q => by rw [upd_ne (ne_of_none q hn)]; exact q) fun c xs q => by rw [upd_ne (ne_of_none q hn)]; exact q
end
def Rd (H : Hp) (a : Addr) (u : HO) : Prop := H a = some u ∨ ∃ o, H a = some (.frz o u)
theorem Rd.of {H : Hp} {a : Addr} {u : HO} (h : H a = some u) : Rd H a u := .inl h
theorem Rd.ok {P : Program} {w : World} {H : Hp} {h : Heap} {a : Addr} {u : HO} (r : Rd H a u) (x : HOk P w H h) : ObjOk P w H h a u := by
  rcases r with r | ⟨o, r⟩
  · exact x a u r
  · obtain ⟨_, q⟩ := x a _ r
    exact q
def Mut : Option HO → Prop
  | some (.lst _) => True
  | some (.dK _) => True
  | some (.dT _) => True
  | some (.set _ _) => True
  | some (.ins _ _ _) => True
  | some (.ext _) => True
  | _ => False
section
variable {P : Program} {w : World} {H : Hp} {h h' : Heap} {x e : Addr} {o' : HO}
theorem HOk.write (ok : HOk P w H h) (mu : Mut (H x)) (he : e = x ∨ H e = some (.own x)) (k : ∀ b u, b ≠ e → h.get? b = some u → h'.get? b = some u) (heo : ∃ u, h'.get? e = some u)
    (new : ObjOk P w (upd H x o') h' x o') : HOk P w (upd H x o') h' := fun b u q => by
  have nown : ∀ c y, H c = some (.own y) → c ≠ x := fun c y r z => by subst z; rw [r] at mu; exact mu
  have ntup : ∀ c xs, H c = some (.tup xs) → c ≠ x := fun c xs r z => by subst z; rw [r] at mu; exact mu
  by_cases hb : b = x
  · subst hb; rw [upd_same] at q; cases q; exact new
  · rw [upd_ne hb] at q
    by_cases hbe : b = e
    · have q' : H b = some (.own x) := by
        rcases he with z | z
        · exact absurd (hbe.trans z) hb
        · rw [hbe]; exact z
      rw [q] at q'; cases q'
      obtain ⟨v, hv⟩ := heo
      exact ⟨v, by rw [hbe]; exact hv⟩
    · refine (ok b u q).stay (fun c v hc r => k c v ?_ r) (fun c r => by rw [upd_ne (nown c b r)]; exact r) fun c xs r => by rw [upd_ne (ntup c xs r)]; exact r
      rcases hc with rfl | hc
      · exact hbe
      · rintro rfl
        rcases he with z | z
        · exact nown c b hc z
        · rw [hc] at z; cases z; exact hb rfl
end
structure Un (fs ex : List Addr) (H H' : Hp) (h h' : Heap) : Prop where
  keep : ∀ b o, h.get? b = some o → H b = none → b ∉ fs → b ∉ ex → h'.get? b = some o
  slot : ∀ b o, h.get? b = some o → H b = none → b ∈ fs → b ∉ ex → ∃ sl, h'.get? b = some { o with slots := sl }
  free : ∀ b o, h.get? b = some o → H b = none → b ∉ ex → H' b = none
  there : ∀ b o, h.get? b = some o → b ∉ ex → ∃ o', h'.get? b = some o'
  tups : ∀ b xs, H b = some (.tup xs) → H' b = some (.tup xs)
  frzs : ∀ b o u, H b = some (.frz o u) → H' b = some (.frz o u)
  tbls : ∀ b ps, H b = some (.tbl ps) → ∃ more, H' b = some (.tbl (ps ++ more))
section
variable {fs fs' ex ex' : List Addr} {H H1 H2 : Hp} {h h1 h2 h' : Heap} {a x e : Addr} {o : HO}
theorem Un.any (u : Un fs ex H H1 h h1) {b : Addr} {ob : Obj} (q : h.get? b = some ob) (n : H b = none) (hx : b ∉ ex) : ∃ sl, h1.get? b = some { ob with slots := sl } := by
  by_cases hb : b ∈ fs
  · exact u.slot b ob q n hb hx
  · exact ⟨ob.slots, u.keep b ob q n hb hx⟩
theorem Un.trans (a : Un fs ex H H1 h h1) (b : Un fs ex H1 H2 h1 h2) : Un fs ex H H2 h h2 where
  keep := fun c ob q n hc hx => b.keep c ob (a.keep c ob q n hc hx) (a.free c ob q n hx) hc hx
  slot := fun c ob q n hc hx => by
    obtain ⟨sl, e1⟩ := a.slot c ob q n hc hx
    obtain ⟨sl', e2⟩ := b.slot c _ e1 (a.free c ob q n hx) hc hx
    exact ⟨sl', e2⟩
  free := fun c ob q n hx => by
    obtain ⟨o', e1⟩ := a.there c ob q hx
    exact b.free c o' e1 (a.free c ob q n hx) hx
  there := fun c ob q hx => by
    obtain ⟨o', e1⟩ := a.there c ob q hx
    exact b.there c o' e1 hx
  tups := fun c xs q => b.tups c xs (a.tups c xs q)
  frzs := fun c ob xs q => b.frzs c ob xs (a.frzs c ob xs q)
  tbls := fun c ps q => by
    obtain ⟨m1, e1⟩ := a.tbls c ps q
    obtain ⟨m2, e2⟩ := b.tbls c _ e1
    exact ⟨m1 ++ m2, by rw [e2, Array.append_assoc]⟩
theorem Un.kept (k : ∀ b u, h.get? b = some u → h'.get? b = some u) : Un fs ex H H h h' :=
  ⟨fun b ob q _ _ _ => k b ob q, fun b ob q _ _ _ => ⟨ob.slots, k b ob q⟩, fun _ _ _ n _ => n, fun b ob q _ => ⟨ob, k b ob q⟩, fun _ _ q => q, fun _ _ _ q => q, fun _ ps q => ⟨#[], by rw [q]; simp⟩⟩
theorem Un.refl : Un fs ex H H h h := Un.kept fun _ _ q => q
theorem Un.laid (k : ∀ b u, h.get? b = some u → h'.get? b = some u) (hp : h.objs.size ≤ a) (hn : H a = none) : Un fs ex H (upd H a o) h h' where
  keep := fun b u q _ _ _ => k b u q
  slot := fun b u q _ _ _ => ⟨u.slots, k b u q⟩
  free := fun b u q n _ => by rw [upd_ne (Nat.ne_of_lt (Nat.lt_of_lt_of_le (Heap.lt_size q) hp))]; exact n
  there := fun b u q _ => ⟨u, k b u q⟩
  tups := fun b xs q => by rw [upd_ne (ne_of_none q hn)]; exact q
  frzs := fun b u xs q => by rw [upd_ne (ne_of_none q hn)]; exact q
  tbls := fun b ps q => ⟨#[], by rw [upd_ne (ne_of_none q hn), q]; simp⟩
theorem Un.write (mu : Mut (H x)) (he : e = x ∨ H e = some (.own x)) (k : ∀ b u, b ≠ e → h.get? b = some u → h'.get? b = some u) (heo : ∃ u, h'.get? e = some u) : Un fs ex H (upd H x o) h h' := by
  have hx : ∀ b, H b = none → b ≠ x := fun b n z => by subst z; rw [n] at mu; exact mu
  have hb : ∀ b, H b = none → b ≠ e := fun b n z => by
    subst z
    rcases he with r | r
    · exact hx b n r
    · rw [n] at r; cases r
  have hm : ∀ b u, H b = some u → ¬ Mut (some u) → b ≠ x := fun b u q nm z => by subst z; rw [q] at mu; exact nm mu
  refine ⟨fun b u q n _ _ => k b u (hb b n) q, fun b u q n _ _ => ⟨u.slots, k b u (hb b n) q⟩, fun b u q n _ => by rw [upd_ne (hx b n)]; exact n, fun b u q _ => ?_,
    fun b xs q => by rw [upd_ne (hm b _ q fun z => z)]; exact q, fun b u xs q => by rw [upd_ne (hm b _ q fun z => z)]; exact q, fun b ps q => ⟨#[], by rw [upd_ne (hm b _ q fun z => z), q]; simp⟩⟩
  by_cases hbe : b = e
  · subst hbe; exact heo
  · exact ⟨u, k b u hbe q⟩
theorem Un.mono (u : Un fs ex H H1 h h1) (hs : ∀ b ∈ fs, b ∈ fs') (hx : ∀ b ∈ ex, b ∈ ex') : Un fs' ex' H H1 h h1 :=
  ⟨fun b ob q n hb he => u.keep b ob q n (fun z => hb (hs b z)) fun z => he (hx b z), fun _ _ q n _ he => u.any q n fun z => he (hx _ z), fun b ob q n he => u.free b ob q n fun z => he (hx b z), fun b ob q he => u.there b ob q fun z => he (hx b z), u.tups, u.frzs, u.tbls⟩
end
def trk (h : Heap) (H : Hp) : List Addr := (List.range h.objs.size).filter fun a => (H a).isSome
def hidT (h : Heap) (H : Hp) : Heap := PySem.W.hideAll h (trk h H)
theorem hidT_size (h : Heap) (H : Hp) : (hidT h H).objs.size = h.objs.size := PySem.W.hideAll_size _ _
theorem hidT_get {h : Heap} {H : Hp} {b : Addr} {o : Obj} (e : h.get? b = some o) (n : H b = none) : (hidT h H).get? b = some o :=
  PySem.W.hideAll_get _ e fun hm => by
    have q : (H b).isSome = true := (List.mem_filter.mp hm).2
    rw [n] at q; simp at q
theorem of_hidT {h : Heap} {H : Hp} {b : Addr} {o : Obj} (e : (hidT h H).get? b = some o) : h.get? b = some o ∧ H b = none := by
  have e' : h.get? b = some o := PySem.W.of_hideAll (trk h H) e
  refine ⟨e', ?_⟩
  cases q : H b with
  | none => rfl
  | some x =>
    have hm : b ∈ trk h H := List.mem_filter.mpr ⟨List.mem_range.mpr (Heap.lt_size e'), by simp [q]⟩
    have z : (hidT h H).get? b = none := PySem.W.hideAll_none (trk h H) hm
    rw [z] at e; cases e

def allNews (g h : Heap) (L : Addr) : List (Addr × Obj) := (List.range h.objs.size).filterMap fun a => if a = L ∨ (g.get? a).isSome = true then none else (h.get? a).map fun o => (a, o)
def rest (g h : Heap) (L d : Addr) : List (Addr × Obj) := (allNews g h L).filter fun p => decide (p.1 ≠ d)
end L2
namespace L2
open PySem PySem.Spec PyProof.Rows
structure Mod (K : PySem.W.Frag) (mg : Str → Option Value) (base : Heap) : Prop where
  kin : K.In base
  glob : base.Ns mainGlobals mg
  blt : ∃ mb, base.Ns builtinsNs mb ∧ ∀ x : Str, x ≠ "__name__" → mb x = bootBuiltins x
  nolimit : base.NoLimit

structure Cx where
  prog : Program
  w : World
  K : PySem.W.Frag
  mg : Str → Option Value
  base : Heap
  A : Around
  N : List Str
  s₀ : Shared
  H₀ : Hp
  env : Env
  outer : List Env
  stack : List Env
  ex : List Addr
  fn : Str → Bool
  calm : Bool
  pn : List (Addr × Obj)
  xe : Value → Shared → Prop
def frs (l : List Env) : List Addr := l.filterMap (·.frame)
abbrev Cx.fs (X : Cx) : List Addr := frs X.outer

def Vis (sc : Scope) (x : Str) : Prop := sc.names.lookup x = some .local ∨ sc.names.lookup x = some .cell ∨ sc.names.lookup x = some .free
def Loc (sc : Scope) (x : Str) : Prop := sc.names.lookup x = some .local ∨ sc.names.lookup x = some .cell
def Look (env : Env) (h : Heap) (m : Str → Option Value) (x : Str) (u : Value) : Prop :=
  (env.kindOf x = some .local ∧ m x = some u) ∨ ((env.kindOf x = some .cell ∨ env.kindOf x = some .free) ∧ ∃ c, env.cells.lookup x = some c ∧ h.IsCell c (some u))

structure Cx.Ok (X : Cx) : Prop where
  mod : Mod X.K X.mg X.base
  kind : X.env.scope.kind = .function
  glob : X.env.globals = mainGlobals
  blt : X.env.builtins = builtinsNs
  above : X.s₀.heap.objs.size ≤ X.env.locals
  inj : ∀ x y c, X.env.cells.lookup x = some c → X.env.cells.lookup y = some c → x = y
  has : ∀ x, (X.env.kindOf x = some .cell ∨ X.env.kindOf x = some .free) → ∃ c, X.env.cells.lookup x = some c
  cab : ∀ x c, X.fn x = true → X.env.cells.lookup x = some c → X.s₀.heap.objs.size ≤ c
  hd : X.calm = true → X.A.handled = none
  frames : X.A.frames = some X.stack
  stk : X.stack = X.outer ∨ (X.stack = X.env :: X.outer ∧ X.env.frame = some X.env.locals)
  exf : ∀ b ∈ X.ex, b ≠ X.env.locals ∧ ∀ x c, X.env.cells.lookup x = some c → c ≠ b
  bs : ∀ b o, X.base.get? b = some o → X.s₀.heap.get? b = some o ∧ X.H₀ b = none
  bsz : X.base.objs.size ≤ X.s₀.heap.objs.size
  noex : ∀ b o, X.base.get? b = some o → b ∉ X.ex
  exfs : ∀ b ∈ X.ex, b ∉ X.fs
  funs : X.s₀.heap.FunFrames X.base X.outer
  frf : ∀ b ∈ X.fs, X.H₀ b = none

structure Inv (X : Cx) (pins : List (Addr × Obj)) (σ : List (Option V)) (H : Hp) (s : Shared) : Prop where
  ok : X.Ok
  os : s.os = X.s₀.os
  bare : AllBare s.gens
  base : Un X.fs X.ex X.H₀ H X.s₀.heap s.heap
  loc : ∃ m, s.heap.Ns X.env.locals m ∧ ∀ (i : Nat) (x : Str) (v : V), X.N[i]? = some x → σ[i]? = some (some v) → Vis X.env.scope x → ∃ u, RelV v u ∧ Look X.env s.heap m x u
  cell : ∀ x c, X.env.cells.lookup x = some c → ∃ v, s.heap.IsCell c v
  free : H X.env.locals = none
  freeC : ∀ x c, X.env.cells.lookup x = some c → H c = none
  pin : ∀ p ∈ X.pn ++ pins, s.heap.get? p.1 = some p.2 ∧ H p.1 = none ∧ p.1 ≠ X.env.locals ∧ p.1 ∉ X.fs ∧ ∀ v, p.2.data ≠ .cell v
  hok : HOk X.prog X.w H s.heap
  len : σ.length = X.N.length

section
variable {X : Cx} {pins : List (Addr × Obj)} {σ : List (Option V)} {H H' : Hp} {s : Shared} {h' : Heap}
theorem Cx.Ok.nofr (ok : X.Ok) {b : Addr} {o : Obj} (e : X.base.get? b = some o) : b ∉ X.fs := fun hb => by
  have := (ok.funs.mem hb).1
  rw [e] at this; cases this
theorem Inv.bs (I : Inv X pins σ H s) : ∀ b o, X.base.get? b = some o → s.heap.get? b = some o ∧ H b = none := fun b o e =>
  ⟨I.base.keep b o (I.ok.bs b o e).1 (I.ok.bs b o e).2 (I.ok.nofr e) (I.ok.noex b o e), I.base.free b o (I.ok.bs b o e).1 (I.ok.bs b o e).2 (I.ok.noex b o e)⟩
theorem Inv.bk (I : Inv X pins σ H s) : ∀ b o, X.base.get? b = some o → s.heap.get? b = some o := fun b o e => (I.bs b o e).1
theorem Inv.mod (I : Inv X pins σ H s) : Mod X.K X.mg X.base := I.ok.mod
theorem Inv.kIn (I : Inv X pins σ H s) : X.K.In s.heap := I.ok.mod.kin.keeps I.bk
theorem Inv.nolimit (I : Inv X pins σ H s) : s.heap.NoLimit := I.ok.mod.nolimit.keeps I.bk
theorem Inv.lt (I : Inv X pins σ H s) : X.env.locals < s.heap.objs.size := let ⟨_, hn, _⟩ := I.loc; hn.lt
theorem Inv.sz (I : Inv X pins σ H s) : X.s₀.heap.objs.size ≤ s.heap.objs.size := Nat.le_trans I.ok.above (Nat.le_of_lt I.lt)
theorem Inv.nofs (I : Inv X pins σ H s) {a : Addr} (h : s.heap.objs.size ≤ a) : a ∉ X.fs := fun hb => by
  obtain ⟨_, o, ho, _⟩ := I.ok.funs.mem hb
  exact absurd (Nat.lt_of_lt_of_le (Heap.lt_size ho) (Nat.le_trans I.sz h)) (Nat.lt_irrefl _)
theorem Inv.cne (I : Inv X pins σ H s) : ∀ x c, X.env.cells.lookup x = some c → c ≠ X.env.locals := fun x c e z => by
  obtain ⟨v, o, ho, hd⟩ := I.cell x c e
  obtain ⟨m, ⟨o', es, ep, ho', hd', _⟩, _⟩ := I.loc
  rw [z, ho'] at ho; cases ho; rw [hd'] at hd; cases hd
theorem Inv.funs (I : Inv X pins σ H s) : s.heap.FunFrames X.base X.outer := by
  have all : ∀ (l : List Env), (∀ b ∈ frs l, b ∈ X.fs) → X.s₀.heap.FunFrames X.base l → s.heap.FunFrames X.base l := by
    intro l
    induction l with
    | nil => intro _ _; trivial
    | cons env r ih =>
      intro hs hl
      obtain ⟨hk, ⟨L, o, hf, hn, ho, hd⟩, hr⟩ := hl
      have hL : L ∈ X.fs := hs L (by unfold frs; rw [List.filterMap_cons, hf]; exact List.mem_cons_self)
      obtain ⟨sl, e⟩ := I.base.slot L o ho (I.ok.frf L hL) hL fun z => I.ok.exfs L z hL
      exact ⟨hk, ⟨L, _, hf, hn, e, hd⟩, ih (fun b hb => hs b (by unfold frs; rw [List.filterMap_cons, hf]; exact List.mem_cons_of_mem _ hb)) hr⟩
  exact all X.outer (fun _ hb => hb) I.ok.funs

theorem Inv.stack (I : Inv X pins σ H s) : s.heap.FunFrames X.base X.stack := by
  rcases I.ok.stk with e | ⟨e, hf⟩
  · rw [e]; exact I.funs
  · rw [e]
    obtain ⟨m, hn, _⟩ := I.loc
    refine .cons (by rw [I.ok.kind]; decide) hf hn ?_ I.funs
    exact Heap.get?_none_of_le (Nat.le_trans I.ok.bsz I.ok.above)
theorem Inv.stkSub (I : Inv X pins σ H s) : ∀ b ∈ frs X.stack, b ∈ X.env.locals :: X.fs := fun b hb => by
  rcases I.ok.stk with e | ⟨e, hf⟩
  · rw [e] at hb; exact List.mem_cons_of_mem _ hb
  · rw [e] at hb
    unfold frs at hb
    rw [List.filterMap_cons, hf] at hb
    exact hb
theorem Inv.stkFree (I : Inv X pins σ H s) : ∀ b ∈ frs X.stack, H b = none := fun b hb => by
  rcases List.mem_cons.mp (I.stkSub b hb) with e | hb
  · rw [e]; exact I.free
  · obtain ⟨_, o, ho, _⟩ := I.ok.funs.mem hb
    exact I.base.free b o ho (I.ok.frf b hb) fun z => I.ok.exfs b z hb

theorem Inv.step {g' : Array GenState} {t' : Nat} {d' : Drawn} {ch : List Addr} (I : Inv X pins σ H s)
    (hch : ∀ b ∈ ch, (b ∈ X.ex ∨ X.s₀.heap.objs.size ≤ b) ∧ b ≠ X.env.locals ∧ (∀ x c, X.env.cells.lookup x = some c → c ≠ b) ∧ ∀ p ∈ X.pn ++ pins, p.1 ≠ b)
    (keep : ∀ b o, b ≠ X.env.locals → b ∉ X.fs → b ∉ ch → s.heap.get? b = some o → H b = none → h'.get? b = some o)
    (slot : ∀ b o, b ≠ X.env.locals → b ∈ X.fs → b ∉ ch → s.heap.get? b = some o → H b = none → ∃ sl, h'.get? b = some { o with slots := sl }) (free : ∀ b o, b ∉ ch → s.heap.get? b = some o → H b = none → H' b = none)
    (there : ∀ b o, b ∉ ch → s.heap.get? b = some o → ∃ o', h'.get? b = some o')
    (tups : ∀ b xs, H b = some (.tup xs) → H' b = some (.tup xs)) (frzs : ∀ b o u, H b = some (.frz o u) → H' b = some (.frz o u)) (tbls : ∀ b ps, H b = some (.tbl ps) → ∃ more, H' b = some (.tbl (ps ++ more)))
    (ns : ∀ m, s.heap.Ns X.env.locals m → h'.Ns X.env.locals m) (hok : HOk X.prog X.w H' h') (hg : AllBare g') :
    Inv X pins σ H' { s with heap := h', gens := g', drawn := d', toks := t' } := by
  have neL : ∀ b o, X.s₀.heap.get? b = some o → b ≠ X.env.locals := fun b o e => Nat.ne_of_lt (Nat.lt_of_lt_of_le (Heap.lt_size e) I.ok.above)
  have neC : ∀ b o, X.s₀.heap.get? b = some o → b ∉ X.ex → b ∉ ch := fun b o e hx hb => by
    rcases (hch b hb).1 with z | z
    · exact hx z
    · exact absurd (Nat.lt_of_lt_of_le (Heap.lt_size e) z) (Nat.lt_irrefl _)
  have cellK : ∀ x c, X.env.cells.lookup x = some c → ∀ v, s.heap.IsCell c v → h'.IsCell c v := fun x c e v ⟨o, ho, hd⟩ => by
    have nch : c ∉ ch := fun z => (hch c z).2.2.1 x c e rfl
    by_cases hc : c ∈ X.fs
    · obtain ⟨sl, q⟩ := slot c o (I.cne x c e) hc nch ho (I.freeC x c e)
      exact ⟨_, q, hd⟩
    · exact ⟨o, keep c o (I.cne x c e) hc nch ho (I.freeC x c e), hd⟩
  refine ⟨I.ok, I.os, hg, ⟨fun b o e n hb hx => ?_, fun b o e n hb hx => ?_, fun b o e n hx => ?_, fun b o e hx => ?_, fun b xs e => tups b xs (I.base.tups b xs e), fun b o xs e => frzs b o xs (I.base.frzs b o xs e), fun b ps e => ?_⟩, ?_, fun x c e => ?_, ?_, fun x c e => ?_, fun p hp => ?_, hok, I.len⟩
  · exact keep b o (neL b o e) hb (neC b o e hx) (I.base.keep b o e n hb hx) (I.base.free b o e n hx)
  · obtain ⟨sl, e1⟩ := I.base.slot b o e n hb hx
    obtain ⟨sl', e2⟩ := slot b _ (neL b o e) hb (neC b o e hx) e1 (I.base.free b o e n hx)
    exact ⟨sl', e2⟩
  · obtain ⟨o', e1⟩ := I.base.there b o e hx
    exact free b o' (neC b o e hx) e1 (I.base.free b o e n hx)
  · obtain ⟨o', e1⟩ := I.base.there b o e hx
    exact there b o' (neC b o e hx) e1
  · obtain ⟨m1, e1⟩ := I.base.tbls b ps e
    obtain ⟨m2, e2⟩ := tbls b _ e1
    exact ⟨m1 ++ m2, by rw [e2, Array.append_assoc]⟩
  · obtain ⟨m, hn, hl⟩ := I.loc
    refine ⟨m, ns m hn, fun i x v e1 e2 e3 => ?_⟩
    obtain ⟨u, r, l⟩ := hl i x v e1 e2 e3
    refine ⟨u, r, ?_⟩
    rcases l with l | ⟨k, c, e, z⟩
    · exact .inl l
    · exact .inr ⟨k, c, e, cellK x c e _ z⟩
  · obtain ⟨v, z⟩ := I.cell x c e
    exact ⟨v, cellK x c e v z⟩
  · obtain ⟨m, ⟨o, _, _, ho, _⟩, _⟩ := I.loc
    exact free _ o (fun z => (hch _ z).2.1 rfl) ho I.free
  · obtain ⟨v, o, ho, hd⟩ := I.cell x c e
    exact free c o (fun z => (hch c z).2.2.1 x c e rfl) ho (I.freeC x c e)
  · obtain ⟨e, n, ne, nf, d⟩ := I.pin p hp
    have nch : p.1 ∉ ch := fun z => (hch p.1 z).2.2.2 p hp rfl
    exact ⟨keep p.1 p.2 ne nf nch e n, free p.1 p.2 nch e n, ne, nf, d⟩
theorem Inv.un {t' : Nat} (I : Inv X pins σ H s) (u : Un X.fs [] H H' s.heap h') (hok : HOk X.prog X.w H' h') : Inv X pins σ H' { s with heap := h', toks := t' } := by
  obtain ⟨m, ⟨o, es, ep, ho, r⟩, _⟩ := id I.loc
  obtain ⟨sl, hL⟩ := u.any ho I.free (by simp)
  exact I.step (g' := s.gens) (d' := s.drawn) (ch := []) (fun _ z => nomatch z) (fun b o _ hb _ e n => u.keep b o e n hb (by simp)) (fun b o _ hb _ e n => u.slot b o e n hb (by simp)) (fun b o _ e n => u.free b o e n (by simp)) (fun b o _ e => u.there b o e (by simp)) u.tups u.frzs u.tbls (fun m' hm => by
    obtain ⟨o', es', ep', ho', r'⟩ := hm
    rw [ho] at ho'; cases ho'
    exact ⟨_, es', ep', hL, r'⟩) hok I.bare
theorem Inv.call {g' : Array GenState} {t' : Nat} {d' : Drawn} {ch : List Addr} (I : Inv X pins σ H s) (u : Un (frs X.stack) ch H H' s.heap h') (hok : HOk X.prog X.w H' h') (hg : AllBare g')
    (hch : ∀ b ∈ ch, (b ∈ X.ex ∨ X.s₀.heap.objs.size ≤ b) ∧ b ≠ X.env.locals ∧ (∀ x c, X.env.cells.lookup x = some c → c ≠ b) ∧ ∀ p ∈ X.pn ++ pins, p.1 ≠ b) :
    Inv X pins σ H' { s with heap := h', gens := g', drawn := d', toks := t' } := by
  obtain ⟨m, ⟨o, es, ep, ho, r⟩, _⟩ := id I.loc
  obtain ⟨sl, hL⟩ := u.any ho I.free fun z => (hch _ z).2.1 rfl
  exact I.step (ch := ch) hch (fun b o hL hb hc e n => u.keep b o e n (fun z => (List.mem_cons.mp (I.stkSub b z)).elim hL hb) hc) (fun b o _ _ hc e n => u.any e n hc) (fun b o hc e n => u.free b o e n hc) (fun b o hc e => u.there b o e hc) u.tups u.frzs u.tbls (fun m' hm => by
    obtain ⟨o', es', ep', ho', r'⟩ := hm
    rw [ho] at ho'; cases ho'
    exact ⟨_, es', ep', hL, r'⟩) hok hg
theorem Inv.turned {t' : Nat} {it : Addr} (I : Inv X pins σ H s) (k : ∀ b o, b ≠ it → s.heap.get? b = some o → h'.get? b = some o) (hn : H it = none) (hL : it ≠ X.env.locals)
    (h1 : it ∈ X.ex ∨ X.s₀.heap.objs.size ≤ it) (h2 : ∀ x c, X.env.cells.lookup x = some c → c ≠ it) (h3 : ∀ p ∈ X.pn ++ pins, p.1 ≠ it) : Inv X pins σ H { s with heap := h', toks := t' } := by
  have nit : ∀ b u, H b = some u → b ≠ it := fun b u e z => by rw [z, hn] at e; cases e
  refine I.step (g' := s.gens) (d' := s.drawn) (ch := [it]) (fun b hb => ?_) (fun b o _ _ hc e _ => k b o (fun z => hc (by simp [z])) e) (fun b o _ _ hc e _ => ⟨o.slots, k b o (fun z => hc (by simp [z])) e⟩) (fun _ _ _ _ n => n)
    (fun b o hc e => ⟨o, k b o (fun z => hc (by simp [z])) e⟩) (fun _ _ e => e) (fun _ _ _ e => e) (fun b ps e => ⟨#[], by rw [e]; simp⟩) (fun m hm => ?_) (fun b u e => ?_) I.bare
  · have e : b = it := by simpa using hb
    subst e
    exact ⟨h1, hL, h2, h3⟩
  · obtain ⟨o, es, ep, ho, r⟩ := hm
    exact ⟨o, es, ep, k _ o (Ne.symm hL) ho, r⟩
  · refine (I.hok b u e).stay (fun c v hc q => k c v ?_ q) (fun _ q => q) fun _ _ q => q
    rcases hc with z | z
    · rw [z]; exact nit b u e
    · exact nit c _ z
theorem Inv.tok (I : Inv X pins σ H s) (t : Nat) : Inv X pins σ H { s with toks := t } := I.un (h' := s.heap) (t' := t) Un.refl I.hok
theorem Inv.kept {t' : Nat} (I : Inv X pins σ H s) (k : ∀ b u, s.heap.get? b = some u → h'.get? b = some u) : Inv X pins σ H { s with heap := h', toks := t' } := I.un (Un.kept k) (I.hok.kept k)
theorem Inv.laid {a : Addr} {o : HO} {t' : Nat} (I : Inv X pins σ H s) (k : ∀ b u, s.heap.get? b = some u → h'.get? b = some u) (hp : s.heap.objs.size ≤ a) (new : ObjOk X.prog X.w (upd H a o) h' a o) :
    Inv X pins σ (upd H a o) { s with heap := h', toks := t' } := I.un (Un.laid k hp (I.hok.fresh hp)) (I.hok.laid k hp new)
theorem Inv.write {x e : Addr} {o : HO} {t' : Nat} (I : Inv X pins σ H s) (mu : Mut (H x)) (he : e = x ∨ H e = some (.own x)) (k : ∀ b u, b ≠ e → s.heap.get? b = some u → h'.get? b = some u) (heo : ∃ u, h'.get? e = some u)
    (new : ObjOk X.prog X.w (upd H x o) h' x o) : Inv X pins σ (upd H x o) { s with heap := h', toks := t' } := I.un (Un.write mu he k heo) (I.hok.write mu he k heo new)
theorem Inv.weak {σ' : List (Option V)} (I : Inv X pins σ H s) (hl : σ'.length = σ.length) (w : ∀ (i : Nat) v, σ'[i]? = some (some v) → σ[i]? = some (some v)) : Inv X pins σ' H s :=
  ⟨I.ok, I.os, I.bare, I.base, let ⟨m, hn, hl'⟩ := I.loc; ⟨m, hn, fun i x v e1 e2 e3 => hl' i x v e1 (w i v e2) e3⟩, I.cell, I.free, I.freeC, I.pin, I.hok, hl.trans I.len⟩
theorem Inv.pins_of {pins' : List (Addr × Obj)} (I : Inv X pins σ H s) (h : ∀ p ∈ pins', s.heap.get? p.1 = some p.2 ∧ H p.1 = none ∧ p.1 ≠ X.env.locals ∧ p.1 ∉ X.fs ∧ ∀ v, p.2.data ≠ .cell v) : Inv X pins' σ H s :=
  ⟨I.ok, I.os, I.bare, I.base, I.loc, I.cell, I.free, I.freeC, fun p hp => (List.mem_append.mp hp).elim (fun z => I.pin p (List.mem_append_left _ z)) (h p), I.hok, I.len⟩

theorem nodup_ix {N : List Str} (hN : N.Nodup) {i j : Nat} {x : Str} (a : N[i]? = some x) (b : N[j]? = some x) : i = j := by
  obtain ⟨h1, e1⟩ := List.getElem?_eq_some_iff.mp a
  obtain ⟨h2, e2⟩ := List.getElem?_eq_some_iff.mp b
  exact (List.getElem_inj hN).mp (e1.trans e2.symm)

theorem store_ok2 {M : Model} {A : Around} {E : Value → Shared → Prop} {i : Nat} {x : Str} {v : V} {u : Value} {Q : Unit → Shared → Prop} (I : Inv X pins σ H s) (hN : X.N.Nodup) (hi : X.N[i]? = some x) (hx : Loc X.env.scope x) (r : RelV v u)
    (h : ∀ s', Inv X pins (σ.set i (some v)) H s' → (∃ a, Heap.SameBut a s.heap s'.heap ∧ (a = X.env.locals ∨ X.env.cells.lookup x = some a)) → Q () s') (hf : X.fn x = true ∨ X.env.scope.names.lookup x = some .local := by first | exact .inl rfl | exact .inr rfl | assumption) : wpAny M A (storeName X.env x u) Q E s := by
  obtain ⟨m, hn, hl⟩ := id I.loc
  have hcls : (X.env.scope.kind == .class || (X.env.scope.kind == .module && X.env.locals != X.env.globals)) = false := by rw [I.ok.kind]; rfl
  have hiσ : i < σ.length := by rw [I.len]; exact (List.getElem?_eq_some_iff.mp hi).1
  have cne := I.cne
  have tracked : ∀ {a : Addr} {h' : Heap}, (∃ o, s.heap.get? a = some o ∧ H a = none) → Heap.SameBut a s.heap h' → HOk X.prog X.w H h' := fun {a h'} ha hs b ob e => by
    obtain ⟨_, _, hfree⟩ := ha
    refine (I.hok b ob e).stay (fun c w' hc q => (hs.2 c ?_).trans q) (fun _ q => q) fun _ _ q => q
    rintro rfl
    rcases hc with rfl | hc
    · rw [hfree] at e; cases e
    · rw [hfree] at hc; cases hc
  rcases hx with hk | hk
  · refine wpAny_storeName_local hk hn (fun h' hn' hs => ?_) hcls
    obtain ⟨oL, _, _, hoL, _⟩ := id hn
    refine h _ ⟨I.ok, I.os, I.bare, ⟨fun b o e n hb hx => ?_, fun b o e n hb hx => ?_, I.base.free, fun b o e hx => ?_, I.base.tups, I.base.frzs, I.base.tbls⟩, ⟨_, hn', fun j y v' e1 e2 e3 => ?_⟩, fun y c e => ?_, I.free, I.freeC, fun p hp => ?_, tracked ⟨oL, hoL, I.free⟩ hs, by simpa using I.len⟩ ⟨_, hs, .inl rfl⟩
    · exact (hs.2 b (Nat.ne_of_lt (Nat.lt_of_lt_of_le (Heap.lt_size e) I.ok.above))).trans (I.base.keep b o e n hb hx)
    · obtain ⟨sl, e1⟩ := I.base.slot b o e n hb hx
      exact ⟨sl, (hs.2 b (Nat.ne_of_lt (Nat.lt_of_lt_of_le (Heap.lt_size e) I.ok.above))).trans e1⟩
    · obtain ⟨o', e1⟩ := I.base.there b o e hx
      exact ⟨o', (hs.2 b (Nat.ne_of_lt (Nat.lt_of_lt_of_le (Heap.lt_size e) I.ok.above))).trans e1⟩
    · by_cases hj : j = i
      · subst hj
        rw [hi] at e1; cases e1
        rw [List.getElem?_set_self hiσ] at e2
        cases e2
        exact ⟨u, r, .inl ⟨hk, by simp⟩⟩
      · rw [List.getElem?_set_ne (Ne.symm hj)] at e2
        obtain ⟨u', r', q⟩ := hl j y v' e1 e2 e3
        refine ⟨u', r', ?_⟩
        rcases q with ⟨k, e⟩ | ⟨k, c, e, z⟩
        · refine .inl ⟨k, ?_⟩
          have : y ≠ x := fun e => hj (nodup_ix hN e1 (e ▸ hi))
          simp [this, e]
        · exact .inr ⟨k, c, e, z.sameBut hs (cne y c e)⟩
    · obtain ⟨w', z⟩ := I.cell y c e
      exact ⟨w', z.sameBut hs (cne y c e)⟩
    · obtain ⟨e, n, ne, nf, d⟩ := I.pin p hp
      exact ⟨(hs.2 p.1 ne).trans e, n, ne, nf, d⟩
  · have hfn : X.fn x = true := by
      rcases hf with z | z
      · exact z
      · rw [z] at hk; cases hk
    obtain ⟨c, hc⟩ := I.ok.has x (.inl hk)
    obtain ⟨w', z⟩ := I.cell x c hc
    refine wpAny_storeName_cell I.ok.kind hk hc z (fun h' hc' hs => ?_)
    obtain ⟨oc, hoc, hocd⟩ := id z
    refine h { s with heap := h' } ⟨I.ok, I.os, I.bare, ⟨fun b o e n hb hx => ?_, fun b o e n hb hx => ?_, I.base.free, fun b o e hx => ?_, I.base.tups, I.base.frzs, I.base.tbls⟩, ⟨m, hn.sameBut hs (Ne.symm (cne x c hc)), fun j y v' e1 e2 e3 => ?_⟩, fun y c' e => ?_, I.free, I.freeC, fun p hp => ?_, tracked ⟨oc, hoc, I.freeC x c hc⟩ hs, by simpa using I.len⟩ ⟨c, hs, .inr hc⟩
    · exact (hs.2 b (Nat.ne_of_lt (Nat.lt_of_lt_of_le (Heap.lt_size e) (I.ok.cab x c hfn hc)))).trans (I.base.keep b o e n hb hx)
    · obtain ⟨sl, e1⟩ := I.base.slot b o e n hb hx
      exact ⟨sl, (hs.2 b (Nat.ne_of_lt (Nat.lt_of_lt_of_le (Heap.lt_size e) (I.ok.cab x c hfn hc)))).trans e1⟩
    · obtain ⟨o', e1⟩ := I.base.there b o e hx
      exact ⟨o', (hs.2 b (Nat.ne_of_lt (Nat.lt_of_lt_of_le (Heap.lt_size e) (I.ok.cab x c hfn hc)))).trans e1⟩
    · by_cases hj : j = i
      · subst hj
        rw [hi] at e1; cases e1
        rw [List.getElem?_set_self hiσ] at e2
        cases e2
        exact ⟨u, r, .inr ⟨.inl hk, c, hc, hc'⟩⟩
      · rw [List.getElem?_set_ne (Ne.symm hj)] at e2
        obtain ⟨u', r', q⟩ := hl j y v' e1 e2 e3
        refine ⟨u', r', ?_⟩
        rcases q with q | ⟨k, c', e, z'⟩
        · exact .inl q
        · refine .inr ⟨k, c', e, z'.sameBut hs ?_⟩
          rintro rfl
          exact hj (nodup_ix hN e1 (I.ok.inj _ _ _ e hc ▸ hi))
    · by_cases hcc : c' = c
      · subst hcc; exact ⟨_, hc'⟩
      · obtain ⟨w2, z2⟩ := I.cell y c' e
        exact ⟨w2, z2.sameBut hs hcc⟩
    · obtain ⟨e, n, ne, nf, d⟩ := I.pin p hp
      refine ⟨(hs.2 p.1 ?_).trans e, n, ne, nf, d⟩
      intro q
      rw [q, hoc] at e
      have q' : oc = p.2 := Option.some.inj e
      exact d w' (by rw [← q']; exact hocd)
theorem store_ok {M : Model} {A : Around} {E : Value → Shared → Prop} {i : Nat} {x : Str} {v : V} {u : Value} {Q : Unit → Shared → Prop} (I : Inv X pins σ H s) (hN : X.N.Nodup) (hi : X.N[i]? = some x) (hx : Loc X.env.scope x) (r : RelV v u)
    (h : ∀ s', Inv X pins (σ.set i (some v)) H s' → Q () s') (hf : X.fn x = true ∨ X.env.scope.names.lookup x = some .local := by first | exact .inl rfl | exact .inr rfl | assumption) : wpAny M A (storeName X.env x u) Q E s :=
  store_ok2 I hN hi hx r (fun s' I' _ => h s' I') hf
theorem Inv.call' {s' : Shared} {ch : List Addr} (I : Inv X pins σ H s) (ho : s'.os = s.os) (u : Un (frs X.stack) ch H H' s.heap s'.heap) (hok : HOk X.prog X.w H' s'.heap) (hg : AllBare s'.gens)
    (hch : ∀ b ∈ ch, (b ∈ X.ex ∨ X.s₀.heap.objs.size ≤ b) ∧ b ≠ X.env.locals ∧ (∀ x c, X.env.cells.lookup x = some c → c ≠ b) ∧ ∀ p ∈ X.pn ++ pins, p.1 ≠ b) : Inv X pins σ H' s' := by
  obtain ⟨h', g', d', t', o'⟩ := s'
  have e : o' = s.os := ho
  subst e
  exact I.call (g' := g') (t' := t') (d' := d') u hok hg hch
end
abbrev XK := Value → Option Addr → Hp → Prop
abbrev St := List (Option V)
abbrev VK := V → Hp → Prop
abbrev TE := St → Hp → VK → Prop
abbrev TT := St → Hp → (Bool → Hp → Prop) → Prop
abbrev TA := St → Hp → (List V → Hp → Prop) → Prop
structure Ends where
  nx : St → Hp → Prop
  rt : VK
  bk : St → Hp → Prop := fun _ _ => False
  ct : St → Hp → Prop := fun _ _ => False
abbrev TS := Ends → St → Hp → Prop

def EP (X : Cx) (pins : List (Addr × Obj)) (σ : St) (Q : VK) (u : Value) (s' : Shared) : Prop := ∃ v H', Inv X pins σ H' s' ∧ RelV v u ∧ Q v H'
def TP (X : Cx) (pins : List (Addr × Obj)) (σ : St) (Q : Bool → Hp → Prop) (b : Bool) (s' : Shared) : Prop := ∃ H', Inv X pins σ H' s' ∧ Q b H'
def AP (X : Cx) (pins : List (Addr × Obj)) (σ : St) (Q : List V → Hp → Prop) (us : List Value) (s' : Shared) : Prop := ∃ vs H', Inv X pins σ H' s' ∧ Vals vs us ∧ Q vs H'
def SP (X : Cx) (pins : List (Addr × Obj)) (D : Ends) (f : Flow) (s' : Shared) : Prop :=
  match f with
  | .next => ∃ σ' H', Inv X pins σ' H' s' ∧ D.nx σ' H'
  | .brk => ∃ σ' H', Inv X pins σ' H' s' ∧ D.bk σ' H'
  | .cont => ∃ σ' H', Inv X pins σ' H' s' ∧ D.ct σ' H'
  | .ret u => ∃ v σ' H', Inv X pins σ' H' s' ∧ RelV v u ∧ D.rt v H'

def PE (X : Cx) (e : Expr) (t : TE) : Prop :=
  ∀ (pins : List (Addr × Obj)) (s : Shared) (σ : St) (H : Hp) (Q : VK), Inv X pins σ H s → t σ H Q → wpAny (model X.prog X.w) X.A (eval e X.env) (EP X pins σ Q) X.xe s
def PT (X : Cx) (e : Expr) (t : TT) : Prop :=
  ∀ (pins : List (Addr × Obj)) (s : Shared) (σ : St) (H : Hp) (Q : Bool → Hp → Prop), Inv X pins σ H s → t σ H Q → wpAny (model X.prog X.w) X.A (isTrue e X.env (eval e X.env)) (TP X pins σ Q) X.xe s
def PW (X : Cx) (e : Expr) (t : TT) : Prop :=
  ∀ (whole : Sem Value) (pins : List (Addr × Obj)) (s : Shared) (σ : St) (H : Hp) (Q : Bool → Hp → Prop), Inv X pins σ H s → t σ H Q → wpAny (model X.prog X.w) X.A (isTrue e X.env whole) (TP X pins σ Q) X.xe s
theorem PW.pt {X : Cx} {e : Expr} {t : TT} (h : PW X e t) : PT X e t := h _
def PA (X : Cx) (es : List Expr) (t : TA) : Prop :=
  ∀ (pos : Pos) (pins : List (Addr × Obj)) (s : Shared) (σ : St) (H : Hp) (Q : List V → Hp → Prop), Inv X pins σ H s → t σ H Q → wpAny (model X.prog X.w) X.A (spliced (backTo pos (starEach es X.env))) (AP X pins σ Q) X.xe s
def PS (X : Cx) (st : Stmt) (t : TS) : Prop :=
  ∀ (pins : List (Addr × Obj)) (s : Shared) (σ : St) (H : Hp) (D : Ends), Inv X pins σ H s → t D σ H → wpAny (model X.prog X.w) X.A (exec st X.env) (SP X pins D) X.xe s
def PSs (X : Cx) (st : List Stmt) (t : TS) : Prop :=
  ∀ (pins : List (Addr × Obj)) (s : Shared) (σ : St) (H : Hp) (D : Ends), Inv X pins σ H s → t D σ H → wpAny (model X.prog X.w) X.A (execs st X.env) (SP X pins D) X.xe s
theorem thn {α : Type} {t : Sem α} {Q Q' : α → Shared → Prop} {M : Model} {A : Around} {E : Value → Shared → Prop} {s : Shared} (h : wpAny M A t Q E s) (hQ : ∀ a s, Q a s → Q' a s) : wpAny M A t Q' E s := wpAny_mono h hQ fun _ _ x => x
end L2
namespace L2
open PySem PySem.Spec PyProof.Rows
section
variable {X : Cx}
def tVar (i : Nat) : TE := fun σ H Q => ∃ v, σ[i]? = some (some v) ∧ Q v H
def tC (v : V) : TE := fun _ H Q => Q v H
theorem pe_var {i : Nat} {x : Str} {pos : Pos} (hN : X.N[i]? = some x) (hv : Vis X.env.scope x) (hd : (x == ("__debug__" : Str)) = false := by decide) (hcd : (x == ("__classdict__" : Str)) = false := by decide) : PE X (.Name x pos) (tVar i) := by
  intro pins s σ H Q I h
  obtain ⟨v, e, h⟩ := h
  obtain ⟨m, hn, hl⟩ := I.loc
  obtain ⟨u, r, l⟩ := hl i x v hN e hv
  have fin : EP X pins σ Q u s := ⟨v, H, I, r, h⟩
  rcases l with ⟨hk, hm⟩ | ⟨hk, c, hc, hcell⟩
  · exact wpAny_Name (wpAny_loadName_local I.ok.kind hk hn hm fin) hd
  · rcases hk with hk | hk
    · exact wpAny_Name (wpAny_loadName_cell I.ok.kind hk hc hcell fin) hd
    · exact wpAny_Name (wpAny_loadName_free I.ok.kind hk hc hcell fin hcd) hd
theorem pe_int {i j pos} : PE X (.Constant (.int i) j pos) (tC (.int i)) := fun _ _ _ H _ I h => wpAny_Constant_int ⟨.int i, H, I.tok _, ⟨_, rfl⟩, h⟩
theorem pe_bl {b j pos} : PE X (.Constant (.bool b) j pos) (tC (.bl b)) := fun _ _ _ H _ I h => Constant_bool ⟨.bl b, H, I, rfl, h⟩
theorem pe_non {j pos} : PE X (.Constant .none j pos) (tC .non) := fun _ _ _ H _ I h => Constant_none ⟨.non, H, I, rfl, h⟩
theorem pe_str {x j pos} : PE X (.Constant (.str x) j pos) (tC (.str x)) := fun _ _ _ H _ I h => Calls.Constant_str ⟨.str x, H, I.tok _, ⟨_, rfl⟩, h⟩

def Gl (X : Cx) (x : Str) : Prop := X.env.kindOf x = some .globalImplicit
theorem ld_glob {E : Value → Shared → Prop} {pins : List (Addr × Obj)} {s : Shared} {σ : St} {H : Hp} {x : Str} {u : Value} {pos : Pos} {Q : Value → Shared → Prop} (I : Inv X pins σ H s) (hg : Gl X x) (hm : X.mg x = some u) (h : Q u s)
    (hd : (x == ("__debug__" : Str)) = false := by decide) : wpAny (model X.prog X.w) X.A (eval (.Name x pos) X.env) Q E s :=
  Calls.Name_function_global I.ok.kind hg (Calls.loadGlobal_global (by rw [I.ok.glob]; exact I.mod.glob.keeps I.bk) hm h) hd
theorem ld_blt {E : Value → Shared → Prop} {pins : List (Addr × Obj)} {s : Shared} {σ : St} {H : Hp} {x : Str} {u : Value} {pos : Pos} {Q : Value → Shared → Prop} (I : Inv X pins σ H s) (hg : Gl X x) (hm : X.mg x = none) (hv : bootBuiltins x = some u) (h : Q u s)
    (hn : x ≠ "__name__" := by decide) (hd : (x == ("__debug__" : Str)) = false := by decide) : wpAny (model X.prog X.w) X.A (eval (.Name x pos) X.env) Q E s := by
  obtain ⟨mb, h1, h2⟩ := I.mod.blt
  exact Calls.Name_function_global I.ok.kind hg (Calls.loadGlobal_builtin (by rw [I.ok.glob]; exact I.mod.glob.keeps I.bk) hm (by rw [I.ok.blt]; exact h1.keeps I.bk) ((h2 x hn).trans hv) h) hd
theorem pe_bltn {x : Str} {v : V} {u : Value} {pos : Pos} (hg : Gl X x) (hm : X.mg x = none) (hv : bootBuiltins x = some u) (r : RelV v u) (hn : x ≠ "__name__" := by decide) (hd : (x == ("__debug__" : Str)) = false := by decide) : PE X (.Name x pos) (tC v) :=
  fun _ _ _ H _ I h => ld_blt I hg hm hv ⟨v, H, I, r, h⟩ hn hd

variable {a b : Expr} {ta tb : TE} {pos : Pos}
def PC (X : Cx) (op : CmpOp) (a b : Expr) (t : TE) : Prop :=
  ∀ (pins : List (Addr × Obj)) (s : Shared) (σ : St) (H : Hp) (Q : VK), Inv X pins σ H s → t σ H Q →
    wpAny (model X.prog X.w) X.A (eval a X.env) (fun v s₁ => wpAny (model X.prog X.w) X.A (eval b X.env) (fun u s₂ => wpAny (model X.prog X.w) X.A (compareOp op v u) (EP X pins σ Q) X.xe s₂) X.xe s₁) X.xe s
theorem nobehind (b : Expr) {op : CmpOp} (h : op ≠ .In) (h2 : op ≠ .NotIn) : behindInMarks op b = false := by
  have e1 : (op == CmpOp.In) = false := by cases op <;> first | rfl | exact absurd rfl h
  have e2 : (op == CmpOp.NotIn) = false := by cases op <;> first | rfl | exact absurd rfl h2
  cases b <;> simp [behindInMarks, e1, e2]
theorem RelV.none_iff {x : V} {v : Value} (r : RelV x v) : (v == Value.none) = decide (x = .non) := by
  cases x with
  | non => cases r; rfl
  | bl _ => cases r; rfl
  | int _ => obtain ⟨t, rfl⟩ := r; rfl
  | str _ => obtain ⟨t, rfl⟩ := r; rfl
  | byt _ => obtain ⟨t, rfl⟩ := r; rfl
  | flt _ => obtain ⟨t, rfl⟩ := r; rfl
  | ref _ => cases r; rfl
  | ty _ => cases r; rfl
def tB (t : TE) : TT := fun σ H Q => t σ H fun x H1 => ∃ c, x = .bl c ∧ Q c H1
theorem pt_cmp {op : CmpOp} {t : TE} (h : PC X op a b t) (h1 : behindInMarks op b = false := by first | exact nobehind _ (by decide) (by decide) | rfl) : PT X (.Compare a [op] [b] pos) (tB t) := by
  intro pins s σ H Q I hw
  refine wpAny_isTrue_Compare1 (thn (h pins s σ H _ I hw) fun v s1 h1 => thn h1 fun u s2 h2 => thn h2 fun c s3 ⟨x, H1, I1, r1, q1⟩ => ?_) h1
  obtain ⟨d, rfl, q⟩ := q1
  cases r1
  exact wpAny_truthy_bool ⟨H1, I1, q⟩
theorem pt_val {e : Expr} {t : TE} (h : PE X e t) (he : ∀ whole, isTrue e X.env whole = (do let v ← whole; standAt e.pos; holding [v] (truthy v)) := by intro _; rfl) : PT X e (tB t) := by
  intro pins s σ H Q I hw
  refine isTrue_plain (thn (h pins s σ H _ I hw) fun v s1 ⟨x, H1, I1, r1, q1⟩ => ?_) (he _)
  obtain ⟨d, rfl, q⟩ := q1
  cases r1
  exact wpAny_truthy_bool ⟨H1, I1, q⟩

variable {tA tB' : TT} {rest : List Expr}
def tOr (t u : TT) : TT := fun σ H Q => t σ H fun c H1 => if c = true then Q true H1 else u σ H1 Q
def tNot (t : TT) : TT := fun σ H Q => t σ H fun c H1 => Q (!c) H1
theorem pw_or1 (ha : PT X a tA) : PW X (.BoolOp .Or [a] pos) tA := by
  intro wh pins s σ H Q I h
  refine isTrue_or (thn (ha pins s σ H Q I h) fun c s1 e => ?_)
  cases c with
  | false => exact isTrue_or_nil e
  | true => exact e
theorem pw_or (ha : PT X a tA) (hb : PW X (.BoolOp .Or (b :: rest) pos) tB') : PW X (.BoolOp .Or (a :: b :: rest) pos) (tOr tA tB') := by
  intro wh pins s σ H Q I h
  refine isTrue_or (thn (ha pins s σ H _ I h) fun c s1 ⟨H1, I1, q1⟩ => ?_)
  cases c with
  | true => exact ⟨H1, I1, q1⟩
  | false => exact hb wh pins s1 σ H1 Q I1 q1
theorem pt_not (ha : PT X a tA) : PT X (.UnaryOp .Not a pos) (tNot tA) := by
  intro pins s σ H Q I h
  exact isTrue_not (ha pins s σ H (fun c H1 => Q (!c) H1) I h)
def tAndV (ta tb : TE) : TE := fun σ H Q => ta σ H fun x H1 => ∃ c, x = .bl c ∧ if c = true then tb σ H1 Q else Q (.bl false) H1
def tNotV (ta : TE) : TE := fun σ H Q => ta σ H fun x H1 => ∃ c, x = .bl c ∧ Q (.bl (!c)) H1
theorem pe_one {op} {t : TE} (h : PE X a t) : PE X (.BoolOp op [a] pos) t := fun pins s σ H Q I hw => BoolOp_one (h pins s σ H Q I hw)
theorem pe_and (ha : PE X a ta) (hb : PE X (.BoolOp .And (b :: rest) pos) tb) : PE X (.BoolOp .And (a :: b :: rest) pos) (tAndV ta tb) := by
  intro pins s σ H Q I h
  refine BoolOp_and (thn (ha pins s σ H _ I h) fun v s1 ⟨x, H1, I1, r1, q1⟩ => ?_)
  obtain ⟨c, rfl, q1⟩ := q1
  cases r1
  refine wpAny_truthy_bool ?_
  cases c with
  | true => exact hb pins s1 σ H1 Q I1 q1
  | false => exact ⟨.bl false, H1, I1, rfl, q1⟩
theorem pe_not (ha : PE X a ta) : PE X (.UnaryOp .Not a pos) (tNotV ta) := by
  intro pins s σ H Q I h
  refine UnaryOp_ (thn (ha pins s σ H _ I h) fun v s1 ⟨x, H1, I1, r1, q1⟩ => ?_)
  obtain ⟨c, rfl, q1⟩ := q1
  cases r1
  exact not_of (wpAny_truthy_bool ⟨.bl (!c), H1, I1, rfl, q1⟩)
def tIf (t : TT) (ta tb : TE) : TE := fun σ H Q => t σ H fun c H1 => if c = true then ta σ H1 Q else tb σ H1 Q
theorem pe_ifExp {c : Expr} (hc : PT X c tA) (ha : PE X a ta) (hb : PE X b tb) : PE X (.IfExp c a b pos) (tIf tA ta tb) := by
  intro pins s σ H Q I h
  refine wpAny_IfExp (thn (hc pins s σ H _ I h) fun d s1 ⟨H1, I1, q1⟩ => ?_)
  cases d with
  | true => exact ha pins s1 σ H1 Q I1 q1
  | false => exact hb pins s1 σ H1 Q I1 q1
end
end L2
namespace L2
open PySem PySem.Spec PyProof.Rows
def SqL (K : PySem.W.Frag) (H : Hp) (a : Addr) (xs : List V) : Prop :=
  Rd H a (.lst xs) ∨
    ∃ (o : Obj) (its : Array Value) (n : Nat), K.lookup a = some o ∧ o.cls = .type "list" ∧ o.dict = none ∧ o.data = .seq its n ∧ its.size ≤ sizeLine ∧ Vals xs its.toList
def SqT (K : PySem.W.Frag) (H : Hp) (a : Addr) (xs : List V) : Prop :=
  Rd H a (.tup xs) ∨
    ∃ (o : Obj) (its : Array Value) (n : Nat), K.lookup a = some o ∧ o.cls = .type "tuple" ∧ o.data = .seq its n ∧ its.size ≤ sizeLine ∧ Vals xs its.toList
def absV : Value → Option V
  | .none => some .non
  | .bool b => some (.bl b)
  | .int i _ => some (.int i)
  | .str x _ => some (.str x)
  | .bytes b _ => some (.byt b)
  | .float b _ => some (.flt b)
  | .ref a => some (.ref a)
  | .type n => some (.ty n)
  | _ => none
theorem RelV.abs {x : V} {u : Value} (r : RelV x u) : absV u = some x := by
  cases x with
  | non => cases r; rfl
  | bl _ => cases r; rfl
  | int _ => obtain ⟨t, rfl⟩ := r; rfl
  | str _ => obtain ⟨t, rfl⟩ := r; rfl
  | byt _ => obtain ⟨t, rfl⟩ := r; rfl
  | flt _ => obtain ⟨t, rfl⟩ := r; rfl
  | ref _ => cases r; rfl
  | ty _ => cases r; rfl
theorem RelV.inj {x y : V} {u : Value} (r : RelV x u) (q : RelV y u) : x = y := Option.some.inj (r.abs.symm.trans q.abs)
theorem Vals.inj : ∀ {xs ys : List V} {us : List Value}, Vals xs us → Vals ys us → xs = ys
  | _, _, _, .nil, .nil => rfl
  | _, _, _, .cons r t, .cons r' t' => by rw [r.inj r', Vals.inj t t']
section
variable {X : Cx} {pins : List (Addr × Obj)} {σ : St} {H : Hp} {s : Shared} {a : Addr} {xs ys : List V}
theorem SqL.of {K : PySem.W.Frag} (h : H a = some (.lst xs)) : SqL K H a xs := .inl (.inl h)
theorem SqT.of {K : PySem.W.Frag} (h : H a = some (.tup xs)) : SqT K H a xs := .inl (.inl h)
theorem Inv.list (I : Inv X pins σ H s) (h : SqL X.K H a xs) : ∃ its : List Value, Vals xs its ∧ PlainL s.heap a its.toArray ∧ xs.length ≤ sizeLine := by
  rcases h with h | ⟨o, its, n, hk, hc, hd, hs, hz, r⟩
  · obtain ⟨z, its, n, r, e⟩ := h.ok I.hok
    exact ⟨its, r, ⟨_, n, e, rfl, rfl, rfl⟩, z⟩
  · refine ⟨its.toList, r, ⟨o, n, I.kIn a o hk, hc, hd, by simpa using hs⟩, ?_⟩
    have e := r.length
    simp only [Array.length_toList] at e
    omega
theorem Inv.tuple (I : Inv X pins σ H s) (h : SqT X.K H a xs) : ∃ its : List Value, Vals xs its ∧ IsTup s.heap a its.toArray ∧ xs.length ≤ sizeLine := by
  rcases h with h | ⟨o, its, n, hk, hc, hs, hz, r⟩
  · obtain ⟨z, its, r, p⟩ := h.ok I.hok
    exact ⟨its, r, p, z⟩
  · refine ⟨its.toList, r, ⟨o, I.kIn a o hk, hc, n, by simpa using hs⟩, ?_⟩
    have e := r.length
    simp only [Array.length_toList] at e
    omega
theorem Inv.list_inj (I : Inv X pins σ H s) (h : SqL X.K H a xs) (h' : SqL X.K H a ys) : xs = ys := by
  obtain ⟨its, r, ⟨o, n, e, _, _, d⟩, _⟩ := I.list h
  obtain ⟨its', r', ⟨o', n', e', _, _, d'⟩, _⟩ := I.list h'
  rw [e] at e'; cases e'
  rw [d] at d'
  injection d' with d1 _
  have : its = its' := by simpa using congrArg Array.toList d1
  subst this
  exact r.inj r'
theorem Inv.tuple_inj (I : Inv X pins σ H s) (h : SqT X.K H a xs) (h' : SqT X.K H a ys) : xs = ys := by
  obtain ⟨its, r, ⟨o, e, _, n, d⟩, _⟩ := I.tuple h
  obtain ⟨its', r', ⟨o', e', _, n', d'⟩, _⟩ := I.tuple h'
  rw [e] at e'; cases e'
  rw [d] at d'
  injection d' with d1 _
  have : its = its' := by simpa using congrArg Array.toList d1
  subst this
  exact r.inj r'
end
abbrev Cx.wish (X : Cx) (E : Value → Shared → Prop) : Cx := { X with xe := E }
abbrev Cx.nox (X : Cx) : Cx := X.wish fun _ _ => False
theorem Cx.Ok.wish {X : Cx} (ok : X.Ok) (E : Value → Shared → Prop) : (X.wish E).Ok :=
  ⟨ok.mod, ok.kind, ok.glob, ok.blt, ok.above, ok.inj, ok.has, ok.cab, ok.hd, ok.frames, ok.stk, ok.exf, ok.bs, ok.bsz, ok.noex, ok.exfs, ok.funs, ok.frf⟩
theorem Cx.Ok.unwish {X : Cx} {E : Value → Shared → Prop} (ok : (X.wish E).Ok) : X.Ok :=
  ⟨ok.mod, ok.kind, ok.glob, ok.blt, ok.above, ok.inj, ok.has, ok.cab, ok.hd, ok.frames, ok.stk, ok.exf, ok.bs, ok.bsz, ok.noex, ok.exfs, ok.funs, ok.frf⟩
section
variable {X : Cx} {pins : List (Addr × Obj)} {σ : St} {H : Hp} {s : Shared} {E : Value → Shared → Prop}
theorem Inv.wish (I : Inv X pins σ H s) (E : Value → Shared → Prop) : Inv (X.wish E) pins σ H s := ⟨I.ok.wish E, I.os, I.bare, I.base, I.loc, I.cell, I.free, I.freeC, I.pin, I.hok, I.len⟩
theorem Inv.unwish (I : Inv (X.wish E) pins σ H s) : Inv X pins σ H s := ⟨I.ok.unwish, I.os, I.bare, I.base, I.loc, I.cell, I.free, I.freeC, I.pin, I.hok, I.len⟩
theorem SP.unwish {D : Ends} {f : Flow} {s' : Shared} (h : SP (X.wish E) pins D f s') : SP X pins D f s' := by
  cases f with
  | next => obtain ⟨σ', H', I, q⟩ := h; exact ⟨σ', H', I.unwish, q⟩
  | brk => obtain ⟨σ', H', I, q⟩ := h; exact ⟨σ', H', I.unwish, q⟩
  | cont => obtain ⟨σ', H', I, q⟩ := h; exact ⟨σ', H', I.unwish, q⟩
  | ret u => obtain ⟨v, σ', H', I, r, q⟩ := h; exact ⟨v, σ', H', I.unwish, r, q⟩
theorem PE.nox {e : Expr} {t : TE} (h : PE X.nox e t) : PE X e t := fun pins s σ H Q I hw =>
  wpAny_mono (h pins s σ H Q (I.wish _) hw) (fun _ _ ⟨v, H', I', r, q⟩ => ⟨v, H', I'.unwish, r, q⟩) fun _ _ z => False.elim z
theorem PT.nox {e : Expr} {t : TT} (h : PT X.nox e t) : PT X e t := fun pins s σ H Q I hw =>
  wpAny_mono (h pins s σ H Q (I.wish _) hw) (fun _ _ ⟨H', I', q⟩ => ⟨H', I'.unwish, q⟩) fun _ _ z => False.elim z
theorem PSs.nox {st : List Stmt} {t : TS} (h : PSs X.nox st t) : PSs X st t := fun pins s σ H D I hw =>
  wpAny_mono (h pins s σ H D (I.wish _) hw) (fun _ _ q => q.unwish) fun _ _ z => False.elim z
end
section
variable {X : Cx} {st : Stmt} {rest : List Stmt} {t u : TS} {e : Expr} {te : TE} {pos : Pos}
def tNext : TS := fun D σ H => D.nx σ H
def tSeq (t u : TS) : TS := fun D σ H => t { D with nx := u D } σ H
theorem pss_nil : PSs X [] tNext := fun _ _ σ H _ I h => wpAny_execs_nil ⟨σ, H, I, h⟩
theorem pss_cons (h1 : PS X st t) (h2 : PSs X rest u) : PSs X (st :: rest) (tSeq t u) := by
  intro pins s σ H D I h
  refine wpAny_execs_cons (thn (h1 pins s σ H { D with nx := u D } I h) fun f s1 q => ?_)
  cases f with
  | next =>
    obtain ⟨σ', H', I', q⟩ := q
    exact h2 pins s1 σ' H' D I' q
  | ret v => exact q
  | brk => exact q
  | cont => exact q
theorem pss_one (h1 : PS X st t) : PSs X [st] t := by
  intro pins s σ H D I h
  refine wpAny_execs_cons (thn (h1 pins s σ H D I h) fun f s1 q => ?_)
  cases f with
  | next => exact wpAny_execs_nil q
  | ret v => exact q
  | brk => exact q
  | cont => exact q
theorem Inv.quiet {pins : List (Addr × Obj)} {σ : St} {H : Hp} {s : Shared} (I : Inv X pins σ H s) : interactive X.env = false := by simp [interactive, I.ok.kind]
def tDrop (te : TE) : TS := fun D σ H => te σ H fun _ H1 => D.nx σ H1
theorem ps_expr (he : PE X e te) (hs : swapsWith e none pos.line X.env = pure false := by rfl) : PS X (.Expr e pos) (tDrop te) := by
  intro pins s σ H D I h
  exact wpAny_Expr_any (thn (he pins s σ H _ I h) fun v s1 ⟨x, H1, I1, r1, q1⟩ => ⟨σ, H1, I1, q1⟩) I.quiet hs
def tRet (te : TE) : TS := fun D σ H => te σ H D.rt
theorem ps_ret (he : PE X e te) : PS X (.Return (some e) pos) (tRet te) := by
  intro pins s σ H D I h
  exact wpAny_Return_some (thn (he pins s σ H _ I h) fun v s1 ⟨x, H1, I1, r1, q1⟩ => ⟨x, σ, H1, I1, r1, q1⟩)
def tIfS (c : TT) (t u : TS) : TS := fun D σ H => c σ H fun b H1 => if b = true then t D σ H1 else u D σ H1
theorem ps_if {c : Expr} {a b : List Stmt} {tc : TT} (hc : PT X c tc) (ha : PSs X a t) (hb : PSs X b u) : PS X (.If c a b pos) (tIfS tc t u) := by
  intro pins s σ H D I h
  refine wpAny_If (thn (hc pins s σ H _ I h) fun d s1 ⟨H1, I1, q1⟩ => ?_)
  cases d with
  | true => exact ha pins s1 σ H1 D I1 q1
  | false => exact hb pins s1 σ H1 D I1 q1
def tNever : TS := fun _ _ _ => False
theorem pss_never {sts : List Stmt} : PSs X sts tNever := fun _ _ _ _ _ _ h => h.elim
end
abbrev TG := V → St → Hp → (St → Hp → Prop) → Prop
def PG (X : Cx) (target : Expr) (t : TG) : Prop :=
  ∀ (pins : List (Addr × Obj)) (s : Shared) (σ : St) (H : Hp) (v : V) (u : Value) (Q : St → Hp → Prop), Inv X pins σ H s → RelV v u → t v σ H Q →
    wpAny (model X.prog X.w) X.A (assign target X.env u) (fun _ s' => ∃ σ' H', Inv X pins σ' H' s' ∧ Q σ' H') X.xe s
abbrev TSet := V → V → V → Hp → (Hp → Prop) → Prop
def PSet (X : Cx) (t : TSet) : Prop :=
  ∀ (pins : List (Addr × Obj)) (s : Shared) (σ : St) (H : Hp) (o i v : V) (ov iv u : Value) (Q : Hp → Prop), Inv X pins σ H s → RelV o ov → RelV i iv → RelV v u → t o i v H Q →
    wpAny (model X.prog X.w) X.A (setItem ov iv u) (fun _ s' => ∃ H', Inv X pins σ H' s' ∧ Q H') X.xe s
section
variable {X : Cx} {pos : Pos}
def gName (i : Nat) : TG := fun v σ H Q => Q (σ.set i (some v)) H
theorem pg_name {i : Nat} {x : Str} (hN : X.N.Nodup) (hi : X.N[i]? = some x) (hx : Loc X.env.scope x) (hf : X.fn x = true ∨ X.env.scope.names.lookup x = some .local := by first | exact .inl rfl | exact .inr rfl | assumption) : PG X (.Name x pos) (gName i) := by
  intro pins s σ H v u Q I r h
  exact wpAny_assign_Name (store_ok I hN hi hx r (fun s' I' => ⟨_, H, I', h⟩) hf)
def gSub (to ti : TE) (t : TSet) : TG := fun v σ H Q => to σ H fun o H1 => ti σ H1 fun i H2 => t o i v H2 fun H3 => Q σ H3
theorem pg_sub {o i : Expr} {to ti : TE} {t : TSet} (ho : PE X o to) (hi : PE X i ti) (hs : PSet X t)
    (ha : ∀ v, assign (.Subscript o i pos) X.env v = (do
      let ov ← holding [v] (eval o X.env)
      let iv ← holding [v, ov] (eval i X.env)
      standAt pos
      holding [v, ov, iv] (setItem ov iv v)
      release [v, ov, iv] []) := by intro _; rfl) : PG X (.Subscript o i pos) (gSub to ti t) := by
  intro pins s σ H v u Q I r h
  rw [ha]
  refine wpAny_bind (wpAny_holding (thn (ho pins s σ H _ I h) fun ov s1 ⟨x, H1, I1, r1, q1⟩ => ?_))
  refine wpAny_bind (wpAny_holding (thn (hi pins s1 σ H1 _ I1 q1) fun iv s2 ⟨y, H2, I2, r2, q2⟩ => ?_))
  refine wpAny_bind (wpAny_standAt (wpAny_bind (wpAny_holding (thn (hs pins s2 σ H2 x y v ov iv u _ I2 r1 r2 r q2) fun _ s3 ⟨H3, I3, q3⟩ => ?_))))
  exact wpAny_release ⟨σ, H3, I3, q3⟩
def tAsg (te : TE) (g : TG) : TS := fun D σ H => te σ H fun x H1 => g x σ H1 D.nx
theorem ps_asg {tg e : Expr} {te : TE} {g : TG} (he : PE X e te) (hg : PG X tg g) (hs : swapsWithSole [tg] e pos.line X.env = pure false := by rfl) (hw : swappedStores [tg] e X.env = pure none := by rfl)
    (h1 : (assignEach [tg] X.env).map (·.2) = [assign tg X.env] := by rfl) : PS X (.Assign [tg] e pos) (tAsg te g) := by
  intro pins s σ H D I h
  refine wpAny_Assign_stores (thn (he pins s σ H _ I h) fun v s1 ⟨x, H1, I1, r1, q1⟩ => ?_) hs hw
  rw [h1]
  exact thn (hg pins s1 σ H1 x v _ I1 r1 q1) fun _ s2 q => q
theorem ps_set {i : Nat} {x : Str} {e : Expr} {te : TE} {pos' : Pos} (hN : X.N.Nodup) (hi : X.N[i]? = some x) (hx : Loc X.env.scope x) (he : PE X e te) (hs : swapsWith e (some (.Name x pos')) pos.line X.env = pure false := by rfl) (hf : X.fn x = true ∨ X.env.scope.names.lookup x = some .local := by first | exact .inl rfl | exact .inr rfl | assumption) :
    PS X (.Assign [.Name x pos'] e pos) (tAsg te (gName i)) := by
  intro pins s σ H D I h
  refine wpAny_Assign_Name (thn (he pins s σ H _ I h) fun v s1 ⟨y, H1, I1, r1, q1⟩ => ?_) hs
  exact store_ok I1 hN hi hx r1 (fun s2 I2 => ⟨_, H1, I2, q1⟩) hf
end
section
variable {X : Cx} {pos : Pos}
def tWhile (c : TT) (tb : TS) : TS := fun D σ H => ∃ W : Nat → St → Hp → Prop, (∃ m, W m σ H) ∧ ∀ m σ H, W m σ H →
  c σ H fun b H1 => if b = true then ∃ N : St → Hp → Prop, (∀ σ' H', N σ' H' → ∃ m', m' < m ∧ W m' σ' H') ∧ tb { D with nx := N, ct := N, bk := D.nx } σ H1 else D.nx σ H1
theorem ps_while {c : Expr} {body : List Stmt} {tc : TT} {tb : TS} (hp : PassesOwn (model X.prog X.w) X.A X.env X.xe) (hc : PT X c tc) (hb : PSs X body tb) : PS X (.While c body [] pos) (tWhile tc tb) := by
  intro pins s σ H D I h
  obtain ⟨W, ⟨m0, w0⟩, turn⟩ := h
  refine wpAny_While (codeAny_whileLoop (fun n s' => ∃ σ' H', Inv X pins σ' H' s' ∧ W n σ' H') ?_ m0 ⟨σ, H, I, w0⟩)
  rintro n s1 ⟨σ1, H1, I1, w1⟩
  refine wpAny_passesOwn hp (thn (hc pins s1 σ1 H1 _ I1 (turn n σ1 H1 w1)) fun b s2 ⟨H2, I2, q2⟩ => ?_)
  cases b with
  | true =>
    obtain ⟨N, hN, q2⟩ := q2
    rw [if_pos rfl]
    refine wpAny_passesOwn hp (thn (hb pins s2 σ1 H2 _ I2 q2) fun f s3 q3 => ?_)
    cases f with
    | next =>
      obtain ⟨σ3, H3, I3, n3⟩ := q3
      obtain ⟨m', hm, w3⟩ := hN σ3 H3 n3
      exact ⟨m', hm, σ3, H3, I3, w3⟩
    | cont =>
      obtain ⟨σ3, H3, I3, n3⟩ := q3
      obtain ⟨m', hm, w3⟩ := hN σ3 H3 n3
      exact ⟨m', hm, σ3, H3, I3, w3⟩
    | brk => exact q3
    | ret v => exact q3
  | false =>
    rw [if_neg Bool.false_ne_true]
    exact wpAny_execs_nil ⟨σ1, H2, I2, q2⟩
end
structure It where
  go : Nat → Hp → Prop
  yld : Nat → Hp → V → Hp → Prop
  stop : Nat → Hp → Prop
def FpOk (X : Cx) (pins : List (Addr × Obj)) (H : Hp) (b : Addr) : Prop :=
  H b = none ∧ b ≠ X.env.locals ∧ b ∉ X.fs ∧ (b ∈ X.ex ∨ X.s₀.heap.objs.size ≤ b) ∧ (∀ x c, X.env.cells.lookup x = some c → c ≠ b) ∧ ∀ p ∈ X.pn ++ pins, p.1 ≠ b
theorem Inv.fpOk {X : Cx} {pins : List (Addr × Obj)} {σ : St} {H H' : Hp} {s : Shared} {b : Addr} (I : Inv X pins σ H s) (hb : s.heap.objs.size ≤ b) (hn : H' b = none) : FpOk X pins H' b := by
  refine ⟨hn, Nat.ne_of_gt (Nat.lt_of_lt_of_le I.lt hb), I.nofs hb, .inr (Nat.le_trans I.sz hb), fun x c e z => ?_, fun p hp z => ?_⟩
  · obtain ⟨v, q⟩ := I.cell x c e
    exact absurd (Nat.lt_of_lt_of_le q.lt (by rw [z]; exact hb)) (Nat.lt_irrefl _)
  · exact absurd (Nat.lt_of_lt_of_le (Heap.lt_size (I.pin p hp).1) (by rw [z]; exact hb)) (Nat.lt_irrefl _)
structure Turn (P : Program) (w : World) (K : PySem.W.Frag) (tg : Expr) (J : It) (fp : List Addr) (it : Addr) (tn : Nat → Heap → Prop) : Prop where
  mem : it ∈ fp
  obj : ∀ i h, tn i h → ∀ b ∈ fp, ∃ o, h.get? b = some o ∧ ∀ v, o.data ≠ .cell v
  keep : ∀ i h h', tn i h → (∀ b ∈ fp, ∀ o, h.get? b = some o → h'.get? b = some o) → tn i h'
  item : ∀ (X : Cx), X.prog = P → X.w = w → X.K = K → X.calm = true → ∀ (i : Nat) (pins : List (Addr × Obj)) (s : Shared) (σ : St) (H : Hp) (E : Value → Shared → Prop), Inv X pins σ H s → (∀ b ∈ fp, FpOk X pins H b) → tn i s.heap → J.go i H →
    wpAny (model P w) X.A (pyNext (.ref it)) (fun r s1 => ∃ u, r = some u ∧
      wpAny (model P w) X.A (letOwnedTupleGo tg (.ref it) u) (fun _ s2 => ∃ x H', Inv X pins σ H' s2 ∧ RelV x u ∧ J.yld i H x H' ∧ tn (i + 1) s2.heap ∧ ∀ b ∈ fp, H' b = none) E s1) E s
  done : ∀ (X : Cx), X.prog = P → X.w = w → X.K = K → X.calm = true → ∀ (i : Nat) (pins : List (Addr × Obj)) (s : Shared) (σ : St) (H : Hp) (E : Value → Shared → Prop), Inv X pins σ H s → (∀ b ∈ fp, FpOk X pins H b) → tn i s.heap → J.stop i H →
    wpAny (model P w) X.A (pyNext (.ref it)) (fun r s1 => r = none ∧ Inv X pins σ H s1) E s
  self : ∀ (A : Around) (i : Nat) (s : Shared) (Q : Value → Shared → Prop) (E : Value → Shared → Prop), tn i s.heap → Q (.ref it) s → wpAny (model P w) A (pyIter (.ref it)) Q E s
abbrev TI := St → Hp → (It → Hp → Prop) → Prop
def PIE (X : Cx) (pins : List (Addr × Obj)) (σ : St) (tg : Expr) (R : It → Hp → Prop) (itv : Value) (s2 : Shared) : Prop :=
  ∃ (it : Addr) (fp : List Addr) (tn : Nat → Heap → Prop) (J : It) (H' : Hp), itv = .ref it ∧ Inv X pins σ H' s2 ∧ Turn X.prog X.w X.K tg J fp it tn ∧ tn 0 s2.heap ∧ (∀ b ∈ fp, FpOk X pins H' b) ∧ R J H'
def PI (X : Cx) (tg iter : Expr) (wi : TI) : Prop :=
  ∀ (pins : List (Addr × Obj)) (s : Shared) (σ : St) (H : Hp) (R : It → Hp → Prop), Inv X pins σ H s → wi σ H R →
    wpAny (model X.prog X.w) X.A (eval iter X.env) (fun v s1 => wpAny (model X.prog X.w) X.A (pyIter v) (PIE X pins σ tg R) X.xe s1) X.xe s

theorem go_of {M : Model} {A : Around} {E : Value → Shared → Prop} {s : Shared} {tg : Expr} {it : Addr} {u : Value} {o : Obj} {n : String} {vs : Array Value} {Q : Unit → Shared → Prop} (ho : s.heap.get? it = some o) (hc : o.cls = .type n) (hd : o.data = .fields vs)
    (hn : ["enumerate", "zip", "dict_itemiterator", "dict_reverseitemiterator", "odict_iterator", "itertools.zip_longest", "itertools.pairwise"].contains n = false) (hQ : Q () s) : wpAny M A (letOwnedTupleGo tg (.ref it) u) Q E s := by
  unfold letOwnedTupleGo
  cases tg <;> first
    | exact wpAny_pure hQ
    | (cases u <;> first
        | exact wpAny_pure hQ
        | (refine wpAny_bind (wpAny_load ho ?_)
           rw [hc, hd]
           show wpAny M A (if (["enumerate", "zip", "dict_itemiterator", "dict_reverseitemiterator", "odict_iterator", "itertools.zip_longest", "itertools.pairwise"].contains n && vs[0]? == some (rawInt _)) = true then _ else _) Q E s
           rw [if_neg (by intro h; rw [hn, Bool.false_and] at h; cases h)]
           exact wpAny_pure hQ))

def Itl (K : PySem.W.Frag) (a : Addr) : It :=
  ⟨fun i H => ∃ xs x, SqL K H a xs ∧ xs[i]? = some x, fun i H x H' => H' = H ∧ ∀ xs, SqL K H a xs → xs[i]? = some x, fun i H => ∃ xs, SqL K H a xs ∧ xs.length ≤ i⟩
def Itt (K : PySem.W.Frag) (a : Addr) : It :=
  ⟨fun i H => ∃ xs x, SqT K H a xs ∧ xs[i]? = some x, fun i H x H' => H' = H ∧ ∀ xs, SqT K H a xs → xs[i]? = some x, fun i H => ∃ xs, SqT K H a xs ∧ xs.length ≤ i⟩
def Itr (lo : Int) (n : Nat) : It := ⟨fun i _ => i < n, fun i H x H' => H' = H ∧ x = .int (lo + i), fun i _ => n ≤ i⟩
theorem turn_list {P : Program} {w : World} {K : PySem.W.Frag} {tg : Expr} (a it : Addr) : Turn P w K tg (Itl K a) [it] it (fun i h => h.IsListIter it a i) where
  mem := by simp
  obj := fun i h st b hb => by
    have e : b = it := by simpa using hb
    subst e
    obtain ⟨o, e, c, d⟩ := st
    exact ⟨o, e, fun v z => by rw [d] at z; cases z⟩
  keep := fun i h h' st k => st.at fun o e => k it (by simp) o e
  item := by
    intro X hP hw hK hc i pins s σ H E I hf st hg
    subst hP hw hK
    obtain ⟨xs, x, hq, hx⟩ := hg
    obtain ⟨its, rv, p, hz⟩ := I.list hq
    obtain ⟨u, hu, ru⟩ := rv.get hx
    obtain ⟨f0, f1, f2, f3, f4, f5⟩ := hf it (by simp)
    refine wpAny_pyNext_list_item st p.isList (x := u) (by simpa using hu) fun h' st' sb => ?_
    have I1 : Inv X pins σ H { s with heap := h' } := I.turned (t' := s.toks) (fun b o hb e => (sb.2 b hb).trans e) f0 f1 f3 f4 f5
    obtain ⟨o, e, c, d⟩ := id st'
    exact ⟨u, rfl, go_of (s := { s with heap := h' }) e c d (by decide) ⟨x, H, I1, ru, ⟨rfl, fun ys hy => by rw [I.list_inj hy hq]; exact hx⟩, st', fun b hb => (hf b hb).1⟩⟩
  done := by
    intro X hP hw hK hc i pins s σ H E I hf st hg
    subst hP hw hK
    obtain ⟨xs, hq, hx⟩ := hg
    obtain ⟨its, rv, p, hz⟩ := I.list hq
    obtain ⟨f0, f1, f2, f3, f4, f5⟩ := hf it (by simp)
    have hl := rv.length
    exact wpAny_pyNext_list_end (I.ok.hd hc) st p.isList (by simp; omega) fun h' eb => ⟨rfl, I.turned (t' := s.toks) (fun b o hb e => eb b o hb e) f0 f1 f3 f4 f5⟩
  self := fun _ _ _ _ _ st h => wpAny_pyIter_listiter st h
theorem turn_tuple {P : Program} {w : World} {K : PySem.W.Frag} {tg : Expr} (a it : Addr) : Turn P w K tg (Itt K a) [it] it (fun i h => h.IsTupleIter it a i) where
  mem := by simp
  obj := fun i h st b hb => by
    have e : b = it := by simpa using hb
    subst e
    obtain ⟨o, e, c, d⟩ := st
    exact ⟨o, e, fun v z => by rw [d] at z; cases z⟩
  keep := fun i h h' st k => st.at fun o e => k it (by simp) o e
  item := by
    intro X hP hw hK hc i pins s σ H E I hf st hg
    subst hP hw hK
    obtain ⟨xs, x, hq, hx⟩ := hg
    obtain ⟨its, rv, p, hz⟩ := I.tuple hq
    obtain ⟨u, hu, ru⟩ := rv.get hx
    obtain ⟨f0, f1, f2, f3, f4, f5⟩ := hf it (by simp)
    refine wpAny_pyNext_tuple_item st (show s.heap.IsTuple a its.toArray from p) (x := u) (by simpa using hu) fun h' st' sb => ?_
    have I1 : Inv X pins σ H { s with heap := h' } := I.turned (t' := s.toks) (fun b o hb e => (sb.2 b hb).trans e) f0 f1 f3 f4 f5
    obtain ⟨o, e, c, d⟩ := id st'
    exact ⟨u, rfl, go_of (s := { s with heap := h' }) e c d (by decide) ⟨x, H, I1, ru, ⟨rfl, fun ys hy => by rw [I.tuple_inj hy hq]; exact hx⟩, st', fun b hb => (hf b hb).1⟩⟩
  done := by
    intro X hP hw hK hc i pins s σ H E I hf st hg
    subst hP hw hK
    obtain ⟨xs, hq, hx⟩ := hg
    obtain ⟨its, rv, p, hz⟩ := I.tuple hq
    obtain ⟨f0, f1, f2, f3, f4, f5⟩ := hf it (by simp)
    have hl := rv.length
    exact wpAny_pyNext_tuple_end (I.ok.hd hc) st (show s.heap.IsTuple a its.toArray from p) (by simp; omega) fun h' eb => ⟨rfl, I.turned (t' := s.toks) (fun b o hb e => eb b o hb e) f0 f1 f3 f4 f5⟩
  self := fun _ _ _ _ _ st h => wpAny_pyIter_tupleiter st h
theorem turn_range {P : Program} {w : World} {K : PySem.W.Frag} {tg : Expr} (it : Addr) (lo : Int) (n : Nat) : Turn P w K tg (Itr lo n) [it] it (fun i h => IsRangeIter h it (lo + (i : Nat) * 1) ((n : Int) - (i : Nat)) 1) where
  mem := by simp
  obj := fun i h st b hb => by
    have e : b = it := by simpa using hb
    subst e
    exact ⟨_, st, fun v z => by
      have z' : Data.fields _ = Data.cell v := z
      cases z'⟩
  keep := fun i h h' st k => k it (by simp) _ st
  item := by
    intro X hP hw hK hc i pins s σ H E I hf st hg
    subst hP hw hK
    obtain ⟨f0, f1, f2, f3, f4, f5⟩ := hf it (by simp)
    have W := Walks.range (prog := X.prog) (w := X.w) (I.ok.hd hc) it lo 1 n
    refine W.item i s _ _ hg st fun v h' tk hv st' kk => ?_
    obtain ⟨t, rfl⟩ := hv
    have I1 : Inv X pins σ H { s with heap := h', toks := tk } := I.turned (fun b o hb e => kk b o (by simpa using hb) e) f0 f1 f3 f4 f5
    refine ⟨_, rfl, go_of (s := { s with heap := h', toks := tk }) (n := "range_iterator") st' rfl rfl (by decide) ⟨.int (lo + i), H, I1, ⟨t, ?_⟩, ⟨rfl, rfl⟩, st', fun b hb => (hf b hb).1⟩⟩
    rw [Int.mul_one]
  done := by
    intro X hP hw hK hc i pins s σ H E I hf st hg
    subst hP hw hK
    obtain ⟨f0, f1, f2, f3, f4, f5⟩ := hf it (by simp)
    exact wpAny_pyNext_range_end (I.ok.hd hc) st (by have : n ≤ i := hg; omega) fun h' eb => ⟨rfl, I.turned (t' := s.toks) (fun b o hb e => eb b o hb e) f0 f1 f3 f4 f5⟩
  self := fun _ _ _ _ _ st h => wpAny_pyIter_rangeiter st h
end L2
namespace L2
open PySem PySem.Spec PyProof.Rows
section
variable {X : Cx} {tg : Expr}
def iList (K : PySem.W.Frag) (tl : TE) : TI := fun σ H R => tl σ H fun x H1 => ∃ a, x = .ref a ∧ (∃ xs, SqL K H1 a xs) ∧ R (Itl K a) H1
def iTup (K : PySem.W.Frag) (tl : TE) : TI := fun σ H R => tl σ H fun x H1 => ∃ a, x = .ref a ∧ (∃ xs, SqT K H1 a xs) ∧ R (Itt K a) H1
theorem pi_list {l : Expr} {tl : TE} (hl : PE X l tl) : PI X tg l (iList X.K tl) := by
  intro pins s σ H R I h
  refine thn (hl pins s σ H _ I h) fun v s1 ⟨x, H1, I1, r1, q1⟩ => ?_
  obtain ⟨a, e, ⟨xs, hq⟩, q⟩ := q1
  subst e
  cases r1
  obtain ⟨its, rv, p, hz⟩ := I1.list hq
  refine wpAny_pyIter_list p.isList ?_
  refine ⟨s1.heap.objs.size, [s1.heap.objs.size], _, _, H1, rfl, I1.kept (t' := s1.toks) fun b o e => Heap.get?_push_of_some _ e, turn_list a _, ⟨_, Heap.get?_push_size _ rfl, rfl, rfl⟩, fun b hb => ?_, q⟩
  have e : b = s1.heap.objs.size := by simpa using hb
  subst e
  exact I1.fpOk (Nat.le_refl _) (I1.hok.fresh (Nat.le_refl _))
theorem pi_tup {l : Expr} {tl : TE} (hl : PE X l tl) : PI X tg l (iTup X.K tl) := by
  intro pins s σ H R I h
  refine thn (hl pins s σ H _ I h) fun v s1 ⟨x, H1, I1, r1, q1⟩ => ?_
  obtain ⟨a, e, ⟨xs, hq⟩, q⟩ := q1
  subst e
  cases r1
  obtain ⟨its, rv, p, hz⟩ := I1.tuple hq
  refine wpAny_pyIter_tuple (show s1.heap.IsTuple a its.toArray from p) ?_
  refine ⟨s1.heap.objs.size, [s1.heap.objs.size], _, _, H1, rfl, I1.kept (t' := s1.toks) fun b o e => Heap.get?_push_of_some _ e, turn_tuple a _, ⟨_, Heap.get?_push_size _ rfl, rfl, rfl⟩, fun b hb => ?_, q⟩
  have e : b = s1.heap.objs.size := by simpa using hb
  subst e
  exact I1.fpOk (Nat.le_refl _) (I1.hok.fresh (Nat.le_refl _))
theorem range_it {pins : List (Addr × Obj)} {σ : St} {H : Hp} {s : Shared} {R : It → Hp → Prop} {E : Value → Shared → Prop} {lo hi : Int} {t u v : Tok} {tk : Nat} (I : Inv X pins σ H s) (h1 : -(2 ^ 62) ≤ lo) (h2 : lo < 2 ^ 62) (h3 : -(2 ^ 62) ≤ hi) (h4 : hi < 2 ^ 62)
    (q : R (Itr lo (hi - lo).toNat) H) : wpAny (model X.prog X.w) X.A (pyIter (.ref s.heap.objs.size)) (PIE X pins σ tg R) E { s with heap := s.heap.push { cls := .type "range", data := .fields #[.int lo t, .int hi u, .int 1 v] }, toks := tk } := by
  refine wpAny_pyIter_range (IsRange.new ..) (small_one h1 h2 h3 h4) ?_
  have I1 : Inv X pins σ H { s with heap := s.heap.push { cls := .type "range", data := .fields #[.int lo t, .int hi u, .int 1 v] }, toks := tk } := I.kept fun b o e => Heap.get?_push_of_some _ e
  refine ⟨(s.heap.push { cls := .type "range", data := .fields #[.int lo t, .int hi u, .int 1 v] }).objs.size, [(s.heap.push { cls := .type "range", data := .fields #[.int lo t, .int hi u, .int 1 v] }).objs.size], _, _, H, rfl,
    I1.kept (t' := tk) fun b o e => Heap.get?_push_of_some _ e, turn_range _ lo (hi - lo).toNat, ?_, fun b hb => ?_, q⟩
  · have e1 : lo + ((0 : Nat) : Int) * 1 = lo := by simp
    have e2 : (((hi - lo).toNat : Nat) : Int) - ((0 : Nat) : Int) = Builtin.Range.rangeSize lo hi 1 := by rw [rangeSize_one]; split <;> omega
    show IsRangeIter _ _ (lo + ((0 : Nat) : Int) * 1) ((((hi - lo).toNat : Nat) : Int) - ((0 : Nat) : Int)) 1
    rw [e1, e2]
    exact Heap.get?_push_size _ rfl
  · have e : b = (s.heap.push { cls := .type "range", data := .fields #[.int lo t, .int hi u, .int 1 v] }).objs.size := by simpa using hb
    subst e
    exact I1.fpOk (Nat.le_refl _) (I1.hok.fresh (Nat.le_refl _))
def iRng1 (ta : TA) : TI := fun σ H R => ta σ H fun vs H1 => ∃ j : Int, vs = [.int j] ∧ -(2 ^ 62) ≤ j ∧ j < 2 ^ 62 ∧ R (Itr 0 j.toNat) H1
theorem pi_range1 {a : Expr} {ta : TA} {p pos : Pos} (hg : Gl X "range") (hm : X.mg "range" = none) (ha : PA X [a] ta) (hs : starEach [a] X.env = [(false, eval a X.env)] := by rfl) : PI X tg (.Call (.Name "range" p) [a] [] pos) (iRng1 ta) := by
  intro pins s σ H R I h
  refine Call_ (ld_blt I hg hm boot_range (PyProof.Rows.callWith_type1 (thn (ha pos pins s σ H _ I h) fun us s1 ⟨vs, H1, I1, r1, q1⟩ => ?_) hs rfl))
  obtain ⟨j, e, q1, q2, q⟩ := q1
  subst e
  cases r1 with
  | cons r rr =>
    cases rr
    obtain ⟨t, rfl⟩ := r
    exact call_range_1 (range_it I1 (by omega) (by omega) q1 q2 (by simpa using q))
def tFor (wi : TI) (g : TG) (tb : TS) : TS := fun D σ H => wi σ H fun J H1 => ∃ W : Nat → Nat → St → Hp → Prop, (∃ m, W 0 m σ H1) ∧ ∀ i m σ H, W i m σ H →
  (J.stop i H ∧ D.nx σ H) ∨ (J.go i H ∧ ∃ N : St → Hp → Prop, (∀ σ' H', N σ' H' → ∃ m', m' < m ∧ W (i + 1) m' σ' H') ∧ ∀ x H', J.yld i H x H' → g x σ H' fun σ2 H2 => tb { D with nx := N, ct := N, bk := D.nx } σ2 H2)
def pinsAt (fp : List Addr) (h : Heap) : List (Addr × Obj) := fp.filterMap fun b => (h.get? b).map fun o => (b, o)
theorem mem_pinsAt {fp : List Addr} {h : Heap} {b : Addr} {o : Obj} (hb : b ∈ fp) (e : h.get? b = some o) : (b, o) ∈ pinsAt fp h := List.mem_filterMap.mpr ⟨b, hb, by rw [e]; rfl⟩
theorem of_pinsAt {fp : List Addr} {h : Heap} {p : Addr × Obj} (hp : p ∈ pinsAt fp h) : p.1 ∈ fp ∧ h.get? p.1 = some p.2 := by
  obtain ⟨b, hb, e⟩ := List.mem_filterMap.mp hp
  cases q : h.get? b with
  | none => rw [q] at e; cases e
  | some o =>
    rw [q] at e
    have e' : (b, o) = p := Option.some.inj e
    subst e'
    exact ⟨hb, q⟩
theorem Inv.pinned {pins : List (Addr × Obj)} {σ : St} {H : Hp} {s : Shared} {fp : List Addr} (I : Inv X pins σ H s) (hf : ∀ b ∈ fp, FpOk X pins H b) (ho : ∀ b ∈ fp, ∃ o, s.heap.get? b = some o ∧ ∀ v, o.data ≠ .cell v) : Inv X (pins ++ pinsAt fp s.heap) σ H s :=
  I.pins_of fun p hp => (List.mem_append.mp hp).elim (fun z => I.pin p (List.mem_append_right _ z)) fun z => by
    obtain ⟨hb, e⟩ := of_pinsAt z
    obtain ⟨f0, f1, f2, _⟩ := hf p.1 hb
    obtain ⟨o, e', d⟩ := ho p.1 hb
    rw [e] at e'; cases e'
    exact ⟨e, f0, f1, f2, d⟩
theorem Inv.unpinned {pins pl : List (Addr × Obj)} {σ : St} {H : Hp} {s : Shared} (I : Inv X (pins ++ pl) σ H s) : Inv X pins σ H s := I.pins_of fun p hp => I.pin p (List.mem_append_right _ (List.mem_append_left _ hp))
theorem ps_for {iter : Expr} {body : List Stmt} {wi : TI} {g : TG} {tb : TS} {pos : Pos} (hp : PassesOwn (model X.prog X.w) X.A X.env X.xe) (hc : X.calm = true) (hi : PI X tg iter wi) (hg : PG X tg g) (hb : PSs X body tb)
    (hs : ∀ x, foldedSetIterable iter X.env x = pure x := by intro _; rfl) : PS X (.For tg iter body [] pos) (tFor wi g tb) := by
  intro pins s σ H D I h
  refine wpAny_For (thn (hi pins s σ H _ I h) fun v s1 h1 => thn h1 fun itv s2 h2 => ?_) hs
  obtain ⟨it, fp, tn, J, H2, e, I2, T, st2, f2, W, ⟨m0, w0⟩, turn⟩ := h2
  subst e
  have stat : ∀ {H' : Hp}, (∀ b ∈ fp, H' b = none) → ∀ b ∈ fp, FpOk X pins H' b := fun hn b hb => ⟨hn b hb, (f2 b hb).2⟩
  refine codeAny_forLoop_any (fun n s' => ∃ i σ' H', Inv X pins σ' H' s' ∧ tn i s'.heap ∧ (∀ b ∈ fp, H' b = none) ∧ W i n σ' H') ?_ m0 ⟨0, σ, H2, I2, st2, fun b hb => (f2 b hb).1, w0⟩
  rintro n s3 ⟨i, σ3, H3, I3, st3, fr3, w3⟩
  rcases turn i n σ3 H3 w3 with ⟨stop, qn⟩ | ⟨go, N, hN, step⟩
  · refine wpAny_passesOwn hp (thn (T.done X rfl rfl rfl hc i pins s3 σ3 H3 X.xe I3 (stat fr3) st3 stop) fun r s4 ⟨hr, I4⟩ => ?_)
    subst hr
    exact wpAny_execs_nil ⟨σ3, H3, I4, qn⟩
  · refine wpAny_passesOwn hp (thn (T.item X rfl rfl rfl hc i pins s3 σ3 H3 X.xe I3 (stat fr3) st3 go) fun r s4 ⟨u, hr, h4⟩ => ?_)
    subst hr
    refine wpAny_passesOwn hp (thn h4 fun _ s5 ⟨x, H5, I5, r5, y5, st5, fr5⟩ => ?_)
    have I5' := I5.pinned (stat fr5) (T.obj _ _ st5)
    refine wpAny_passesOwn hp (thn (hg _ s5 σ3 H5 x u _ I5' r5 (step x H5 y5)) fun _ s6 ⟨σ6, H6, I6, q6⟩ => ?_)
    refine wpAny_passesOwn hp (thn (hb _ s6 σ6 H6 _ I6 q6) fun f s7 q7 => ?_)
    have again : ∀ {σ7 : St} {H7 : Hp}, Inv X (pins ++ pinsAt fp s5.heap) σ7 H7 s7 → N σ7 H7 → ∃ m, m < n ∧ ∃ i σ' H', Inv X pins σ' H' s7 ∧ tn i s7.heap ∧ (∀ b ∈ fp, H' b = none) ∧ W i m σ' H' := fun {σ7 H7} I7 n7 => by
      obtain ⟨m', hm, w7⟩ := hN σ7 H7 n7
      refine ⟨m', hm, i + 1, σ7, H7, I7.unpinned, T.keep _ _ _ st5 fun b hb o e => (I7.pin (b, o) (List.mem_append_right _ (List.mem_append_right _ (mem_pinsAt hb e)))).1, fun b hb => ?_, w7⟩
      obtain ⟨o, e, d⟩ := T.obj _ _ st5 b hb
      exact (I7.pin (b, o) (List.mem_append_right _ (List.mem_append_right _ (mem_pinsAt hb e)))).2.1
    cases f with
    | next => obtain ⟨σ7, H7, I7, n7⟩ := q7; exact again I7 n7
    | cont => obtain ⟨σ7, H7, I7, n7⟩ := q7; exact again I7 n7
    | brk => obtain ⟨σ7, H7, I7, q7⟩ := q7; exact ⟨σ7, H7, I7.unpinned, q7⟩
    | ret v => obtain ⟨x7, σ7, H7, I7, r7, q7⟩ := q7; exact ⟨x7, σ7, H7, I7.unpinned, r7, q7⟩
end
theorem for_list {K : PySem.W.Frag} {a : Addr} {xs : List V} {g : TG} {tb : TS} {D : Ends} {σ : St} {H : Hp} (Pv : Nat → St → Hp → Prop) (h0 : Pv 0 σ H) (hl : ∀ i σ H, i ≤ xs.length → Pv i σ H → SqL K H a xs)
    (hs : ∀ i x σ H, xs[i]? = some x → Pv i σ H → g x σ H fun σ2 H2 => tb { D with nx := Pv (i + 1), ct := Pv (i + 1), bk := D.nx } σ2 H2) (hd : ∀ σ H, Pv xs.length σ H → D.nx σ H) :
    ∃ W : Nat → Nat → St → Hp → Prop, (∃ m, W 0 m σ H) ∧ ∀ i m σ H, W i m σ H →
      ((Itl K a).stop i H ∧ D.nx σ H) ∨ ((Itl K a).go i H ∧ ∃ N : St → Hp → Prop, (∀ σ' H', N σ' H' → ∃ m', m' < m ∧ W (i + 1) m' σ' H') ∧ ∀ x H', (Itl K a).yld i H x H' → g x σ H' fun σ2 H2 => tb { D with nx := N, ct := N, bk := D.nx } σ2 H2) := by
  refine ⟨fun i m σ H => m = xs.length - i ∧ i ≤ xs.length ∧ Pv i σ H, ⟨xs.length, by simp, Nat.zero_le _, h0⟩, ?_⟩
  rintro i m σ H ⟨rfl, hi, p⟩
  have q := hl i σ H hi p
  by_cases hlt : i < xs.length
  · refine .inr ⟨⟨xs, xs[i], q, by simp [hlt]⟩, Pv (i + 1), fun σ' H' p' => ⟨xs.length - (i + 1), by omega, rfl, hlt, p'⟩, fun x H' y => ?_⟩
    obtain ⟨e, y⟩ := y
    subst e
    exact hs i x σ _ (y xs q) p
  · have e : i = xs.length := by omega
    subst e
    exact .inl ⟨⟨xs, q, Nat.le_refl _⟩, hd σ H p⟩
theorem for_tup {K : PySem.W.Frag} {a : Addr} {xs : List V} {g : TG} {tb : TS} {D : Ends} {σ : St} {H : Hp} (Pv : Nat → St → Hp → Prop) (h0 : Pv 0 σ H) (hl : ∀ i σ H, i ≤ xs.length → Pv i σ H → SqT K H a xs)
    (hs : ∀ i x σ H, xs[i]? = some x → Pv i σ H → g x σ H fun σ2 H2 => tb { D with nx := Pv (i + 1), ct := Pv (i + 1), bk := D.nx } σ2 H2) (hd : ∀ σ H, Pv xs.length σ H → D.nx σ H) :
    ∃ W : Nat → Nat → St → Hp → Prop, (∃ m, W 0 m σ H) ∧ ∀ i m σ H, W i m σ H →
      ((Itt K a).stop i H ∧ D.nx σ H) ∨ ((Itt K a).go i H ∧ ∃ N : St → Hp → Prop, (∀ σ' H', N σ' H' → ∃ m', m' < m ∧ W (i + 1) m' σ' H') ∧ ∀ x H', (Itt K a).yld i H x H' → g x σ H' fun σ2 H2 => tb { D with nx := N, ct := N, bk := D.nx } σ2 H2) := by
  refine ⟨fun i m σ H => m = xs.length - i ∧ i ≤ xs.length ∧ Pv i σ H, ⟨xs.length, by simp, Nat.zero_le _, h0⟩, ?_⟩
  rintro i m σ H ⟨rfl, hi, p⟩
  have q := hl i σ H hi p
  by_cases hlt : i < xs.length
  · refine .inr ⟨⟨xs, xs[i], q, by simp [hlt]⟩, Pv (i + 1), fun σ' H' p' => ⟨xs.length - (i + 1), by omega, rfl, hlt, p'⟩, fun x H' y => ?_⟩
    obtain ⟨e, y⟩ := y
    subst e
    exact hs i x σ _ (y xs q) p
  · have e : i = xs.length := by omega
    subst e
    exact .inl ⟨⟨xs, q, Nat.le_refl _⟩, hd σ H p⟩
theorem for_range {lo : Int} {n : Nat} {g : TG} {tb : TS} {D : Ends} {σ : St} {H : Hp} (Pv : Nat → St → Hp → Prop) (h0 : Pv 0 σ H)
    (hs : ∀ i σ H, i < n → Pv i σ H → g (.int (lo + i)) σ H fun σ2 H2 => tb { D with nx := Pv (i + 1), ct := Pv (i + 1), bk := D.nx } σ2 H2) (hd : ∀ σ H, Pv n σ H → D.nx σ H) :
    ∃ W : Nat → Nat → St → Hp → Prop, (∃ m, W 0 m σ H) ∧ ∀ i m σ H, W i m σ H →
      ((Itr lo n).stop i H ∧ D.nx σ H) ∨ ((Itr lo n).go i H ∧ ∃ N : St → Hp → Prop, (∀ σ' H', N σ' H' → ∃ m', m' < m ∧ W (i + 1) m' σ' H') ∧ ∀ x H', (Itr lo n).yld i H x H' → g x σ H' fun σ2 H2 => tb { D with nx := N, ct := N, bk := D.nx } σ2 H2) := by
  refine ⟨fun i m σ H => m = n - i ∧ i ≤ n ∧ Pv i σ H, ⟨n, by simp, Nat.zero_le _, h0⟩, ?_⟩
  rintro i m σ H ⟨rfl, hi, p⟩
  by_cases hlt : i < n
  · refine .inr ⟨hlt, Pv (i + 1), fun σ' H' p' => ⟨n - (i + 1), by omega, rfl, hlt, p'⟩, fun x H' y => ?_⟩
    obtain ⟨e, y⟩ := y
    subst e y
    exact hs i σ _ hlt p
  · have e : i = n := by omega
    subst e
    exact .inl ⟨Nat.le_refl _, hd σ H p⟩
end L2
namespace L2
open PySem PySem.Spec PyProof.Rows
abbrev R2 := V → V → Hp → VK → Prop
def OpR (X : Cx) (f : Value → Value → Sem Value) (r : R2) : Prop :=
  ∀ (pins : List (Addr × Obj)) (s : Shared) (σ : St) (H : Hp) (x y : V) (v u : Value) (Q : VK), Inv X pins σ H s → RelV x v → RelV y u → r x y H Q →
    wpAny (model X.prog X.w) X.A (f v u) (EP X pins σ Q) X.xe s
def CallR (X : Cx) (f : Value) (r : List V → Hp → VK → Prop) : Prop :=
  ∀ (pins : List (Addr × Obj)) (s : Shared) (σ : St) (H : Hp) (xs : List V) (us : List Value) (Q : VK), Inv X pins σ H s → Vals xs us → r xs H Q →
    wpAny (model X.prog X.w) X.A (call f us) (EP X pins σ Q) X.xe s
def tOp (r : R2) (ta tb : TE) : TE := fun σ H Q => ta σ H fun x H1 => tb σ H1 fun y H2 => r x y H2 Q
def rI (C : Int → Int → Prop) (g : Int → Int → V) : R2 := fun x y H Q => ∃ i j, x = .int i ∧ y = .int j ∧ C i j ∧ Q (g i j) H
def rI0 (g : Int → Int → V) : R2 := fun x y H Q => ∃ i j, x = .int i ∧ y = .int j ∧ Q (g i j) H
section
variable {X : Cx} {a b c : Expr} {ta tb tc : TE} {pos : Pos}
theorem binT (ha : PE X a ta) (hb : PE X b tb) {pins : List (Addr × Obj)} {s : Shared} {σ : St} {H : Hp} {R : V → V → Hp → Prop} (I : Inv X pins σ H s)
    (h : ta σ H fun x H1 => tb σ H1 fun y H2 => R x y H2) {Q : Value → Shared → Prop} {f : Value → Value → Sem Value}
    (hf : ∀ v u s2 x y H2, Inv X pins σ H2 s2 → RelV x v → RelV y u → R x y H2 → wpAny (model X.prog X.w) X.A (f v u) Q X.xe s2) :
    wpAny (model X.prog X.w) X.A (eval a X.env) (fun v s₁ => wpAny (model X.prog X.w) X.A (eval b X.env) (fun u s₂ => wpAny (model X.prog X.w) X.A (f v u) Q X.xe s₂) X.xe s₁) X.xe s := by
  refine thn (ha pins s σ H _ I h) fun v s1 ⟨x, H1, I1, r1, q1⟩ => ?_
  refine thn (hb pins s1 σ H1 _ I1 q1) fun u s2 ⟨y, H2, I2, r2, q2⟩ => ?_
  exact hf v u s2 x y H2 I2 r1 r2 q2

theorem pe_op {op : Operator} {r : R2} (ho : OpR X (binaryOp op) r) (ha : PE X a ta) (hb : PE X b tb) : PE X (.BinOp a op b pos) (tOp r ta tb) := by
  intro pins s σ H Q I h
  exact wpAny_BinOp (binT ha hb I h fun v u s2 x y H2 I2 rx ry q => ho pins s2 σ H2 x y v u Q I2 rx ry q)
theorem opI {f : Value → Value → Sem Value} {C : Int → Int → Prop} {g : Int → Int → Int}
    (rule : ∀ (i j : Int) (t u : Tok) (s : Shared) (Q : Value → Shared → Prop) (E : Value → Shared → Prop), C i j → Q (.int (g i j) s.toks) { s with toks := s.toks + 1 } → wpAny (model X.prog X.w) X.A (f (.int i t) (.int j u)) Q E s) :
    OpR X f (rI C fun i j => .int (g i j)) := by
  intro pins s σ H x y v u Q I rx ry h
  obtain ⟨i, j, rfl, rfl, hc, q⟩ := h
  obtain ⟨t, rfl⟩ := rx
  obtain ⟨t', rfl⟩ := ry
  exact rule i j t t' s _ _ hc ⟨.int (g i j), H, I.tok _, ⟨_, rfl⟩, q⟩
theorem opI0 {f : Value → Value → Sem Value} {g : Int → Int → Int}
    (rule : ∀ (i j : Int) (t u : Tok) (s : Shared) (Q : Value → Shared → Prop) (E : Value → Shared → Prop), Q (.int (g i j) s.toks) { s with toks := s.toks + 1 } → wpAny (model X.prog X.w) X.A (f (.int i t) (.int j u)) Q E s) :
    OpR X f (rI0 fun i j => .int (g i j)) := by
  intro pins s σ H x y v u Q I rx ry h
  obtain ⟨i, j, rfl, rfl, q⟩ := h
  obtain ⟨t, rfl⟩ := rx
  obtain ⟨t', rfl⟩ := ry
  exact rule i j t t' s _ _ ⟨.int (g i j), H, I.tok _, ⟨_, rfl⟩, q⟩
theorem opB0 {f : Value → Value → Sem Value} {g : Int → Int → Bool}
    (rule : ∀ (i j : Int) (t u : Tok) (s : Shared) (Q : Value → Shared → Prop) (E : Value → Shared → Prop), Q (.bool (g i j)) s → wpAny (model X.prog X.w) X.A (f (.int i t) (.int j u)) Q E s) :
    OpR X f (rI0 fun i j => .bl (g i j)) := by
  intro pins s σ H x y v u Q I rx ry h
  obtain ⟨i, j, rfl, rfl, q⟩ := h
  obtain ⟨t, rfl⟩ := rx
  obtain ⟨t', rfl⟩ := ry
  exact rule i j t t' s _ _ ⟨.bl (g i j), H, I, rfl, q⟩

def CDiv (i j : Int) : Prop := 0 < j ∧ j < 1073741824
def CMul (i j : Int) : Prop := (-(2 ^ 64) < i ∧ i < 2 ^ 64) ∨ (-(2 ^ 64) < j ∧ j < 2 ^ 64)
theorem CMul.ok {i j : Int} (h : CMul i j) : IntMulOk i j := by
  rcases h with ⟨h1, h2⟩ | ⟨h1, h2⟩
  · exact .of_left (intBits_le_64 h1 h2)
  · exact .of_right (intBits_le_64 h1 h2)
theorem op_add : OpR X (binaryOp .Add) (rI0 fun i j => .int (i + j)) := opI0 fun _ _ _ _ _ _ _ q => add_int q
theorem op_sub : OpR X (binaryOp .Sub) (rI0 fun i j => .int (i - j)) := opI0 fun _ _ _ _ _ _ _ q => sub_int q
theorem op_mul : OpR X (binaryOp .Mult) (rI CMul fun i j => .int (i * j)) := opI fun _ _ _ _ _ _ _ hc q => mul_int q hc.ok
theorem op_fdiv : OpR X (binaryOp .FloorDiv) (rI CDiv fun i j => .int (i / j)) := opI fun i j _ _ _ _ _ hc q => by
  have h1 : (0 : Int) < j := hc.1
  have h2 : j < 1073741824 := hc.2
  exact floordiv_int (by omega) (by rw [Int.fdiv_eq_ediv_of_nonneg i (by omega)]; exact q) (.inl (PyProof.noPylong_small (by omega)))
theorem op_mod : OpR X (binaryOp .Mod) (rI (fun _ j => 0 < j) fun i j => .int (i % j)) := opI fun i j _ _ _ _ _ hc q => by
  have h1 : (0 : Int) < j := hc
  exact mod_int' (by omega) (by rw [Int.fmod_eq_emod_of_nonneg i (by omega)]; exact q)
end
def scal : V → V → Bool
  | .non, .non => true | .non, .int _ => true | .int _, .non => true | .non, .bl _ => true | .bl _, .non => true | .non, .str _ => true | .str _, .non => true
  | .int _, .int _ => true | .bl _, .bl _ => true | .str _, .str _ => true | .byt _, .byt _ => true
  | .int _, .str _ => true | .str _, .int _ => true | .bl _, .str _ => true | .str _, .bl _ => true
  | _, _ => false
def rEq : R2 := fun x y H Q => scal x y = true ∧ Q (.bl (decide (x = y))) H
def rNe : R2 := fun x y H Q => scal x y = true ∧ Q (.bl (!decide (x = y))) H

theorem dec_int {i j : Int} : decide (V.int i = V.int j) = (i == j) := by
  rw [Bool.eq_iff_iff]
  simp
theorem dec_bl {i j : Bool} : decide (V.bl i = V.bl j) = (i == j) := by
  rw [Bool.eq_iff_iff]
  simp
theorem dec_str {i j : Str} : decide (V.str i = V.str j) = (i == j) := by
  rw [Bool.eq_iff_iff]
  simp
theorem dec_byt {i j : Array UInt8} : decide (V.byt i = V.byt j) = (i.toList == j.toList) := by
  rw [Bool.eq_iff_iff]
  cases i
  cases j
  simp

section
variable {X : Cx} {a b c : Expr} {ta tb tc : TE} {pos : Pos}
theorem fin_bl {pins : List (Addr × Obj)} {σ : St} {H : Hp} {s : Shared} {Q : VK} {k k' : Bool} (I : Inv X pins σ H s) (q : Q (.bl k) H) (e : k = k') : EP X pins σ Q (.bool k') s := by
  subst e
  exact ⟨.bl k, H, I, rfl, q⟩
theorem op_eq : OpR X (compareOp .Eq) rEq := by
  intro pins s σ H x y v u Q I rx ry h
  obtain ⟨hs, q⟩ := h
  cases x with
  | non =>
    cases rx
    cases y with
    | non => cases ry; exact PySem.EqNone.eq_none_none (fin_bl I q (by simp))
    | bl j => cases ry; exact PySem.EqNone.eq_none_bool (fin_bl I q (by simp))
    | int j => obtain ⟨t', rfl⟩ := ry; exact PySem.EqNone.eq_none_int (fin_bl I q (by simp))
    | str j => obtain ⟨t', rfl⟩ := ry; exact PySem.EqNone.eq_none_str (fin_bl I q (by simp))
    | _ => exact absurd (show false = true from hs) Bool.false_ne_true
  | bl i =>
    cases rx
    cases y with
    | non => cases ry; exact PySem.EqNone.eq_bool_none (fin_bl I q (by simp))
    | bl j => cases ry; exact eq_bool (fin_bl I q dec_bl)
    | str j => obtain ⟨t', rfl⟩ := ry; exact PySem.EqMixed.eq_bool_str (fin_bl I q (by simp))
    | _ => exact absurd (show false = true from hs) Bool.false_ne_true
  | int i =>
    obtain ⟨t, rfl⟩ := rx
    cases y with
    | non => cases ry; exact PySem.EqNone.eq_int_none (fin_bl I q (by simp))
    | int j => obtain ⟨t', rfl⟩ := ry; exact eq_int (fin_bl I q dec_int)
    | str j => obtain ⟨t', rfl⟩ := ry; exact PySem.EqMixed.eq_int_str (fin_bl I q (by simp))
    | _ => exact absurd (show false = true from hs) Bool.false_ne_true
  | str i =>
    obtain ⟨t, rfl⟩ := rx
    cases y with
    | non => cases ry; exact PySem.EqNone.eq_str_none (fin_bl I q (by simp))
    | bl j => cases ry; exact PySem.EqMixed.eq_str_bool (fin_bl I q (by simp))
    | int j => obtain ⟨t', rfl⟩ := ry; exact PySem.EqMixed.eq_str_int (fin_bl I q (by simp))
    | str j => obtain ⟨t', rfl⟩ := ry; exact eq_str (fin_bl I q dec_str)
    | _ => exact absurd (show false = true from hs) Bool.false_ne_true
  | byt i =>
    obtain ⟨t, rfl⟩ := rx
    cases y with
    | byt j => obtain ⟨t', rfl⟩ := ry; exact PySem.W.eq_bytes (fin_bl I q dec_byt)
    | _ => exact absurd (show false = true from hs) Bool.false_ne_true
  | _ => cases y <;> exact absurd (show false = true from hs) Bool.false_ne_true
theorem op_ne : OpR X (compareOp .NotEq) rNe := by
  intro pins s σ H x y v u Q I rx ry h
  obtain ⟨hs, q⟩ := h
  cases x with
  | non =>
    cases rx
    cases y with
    | non => cases ry; exact PySem.EqNone.ne_none_none (fin_bl I q (by simp))
    | bl j => cases ry; exact PySem.EqNone.ne_none_bool (fin_bl I q (by simp))
    | int j => obtain ⟨t', rfl⟩ := ry; exact PySem.EqNone.ne_none_int (fin_bl I q (by simp))
    | str j => obtain ⟨t', rfl⟩ := ry; exact PySem.EqNone.ne_none_str (fin_bl I q (by simp))
    | _ => exact absurd (show false = true from hs) Bool.false_ne_true
  | bl i =>
    cases rx
    cases y with
    | non => cases ry; exact PySem.EqNone.ne_bool_none (fin_bl I q (by simp))
    | bl j => cases ry; exact ne_bool (fin_bl I q (congrArg not dec_bl))
    | str j => obtain ⟨t', rfl⟩ := ry; exact PySem.EqMixed.ne_bool_str (fin_bl I q (by simp))
    | _ => exact absurd (show false = true from hs) Bool.false_ne_true
  | int i =>
    obtain ⟨t, rfl⟩ := rx
    cases y with
    | non => cases ry; exact PySem.EqNone.ne_int_none (fin_bl I q (by simp))
    | int j => obtain ⟨t', rfl⟩ := ry; exact ne_int (fin_bl I q (congrArg not dec_int))
    | str j => obtain ⟨t', rfl⟩ := ry; exact PySem.EqMixed.ne_int_str (fin_bl I q (by simp))
    | _ => exact absurd (show false = true from hs) Bool.false_ne_true
  | str i =>
    obtain ⟨t, rfl⟩ := rx
    cases y with
    | non => cases ry; exact PySem.EqNone.ne_str_none (fin_bl I q (by simp))
    | bl j => cases ry; exact PySem.EqMixed.ne_str_bool (fin_bl I q (by simp))
    | int j => obtain ⟨t', rfl⟩ := ry; exact PySem.EqMixed.ne_str_int (fin_bl I q (by simp))
    | str j => obtain ⟨t', rfl⟩ := ry; exact ne_str (fin_bl I q (congrArg not dec_str))
    | _ => exact absurd (show false = true from hs) Bool.false_ne_true
  | byt i =>
    obtain ⟨t, rfl⟩ := rx
    cases y with
    | byt j => obtain ⟨t', rfl⟩ := ry; exact PySem.W.ne_bytes (fin_bl I q (congrArg not dec_byt))
    | _ => exact absurd (show false = true from hs) Bool.false_ne_true
  | _ => cases y <;> exact absurd (show false = true from hs) Bool.false_ne_true

theorem op_lt : OpR X (compareOp .Lt) (rI0 fun i j => .bl (decide (i < j))) := opB0 fun _ _ _ _ _ _ _ q => lt_int q
theorem op_isN : OpR X (compareOp .Is) (fun x y H Q => y = .non ∧ Q (.bl (decide (x = .non))) H) := by
  intro pins s σ H x y v u Q I rx ry h
  obtain ⟨rfl, q⟩ := h
  cases ry
  refine is_none_gen (fin_bl I q ?_)
  cases x <;> first
    | (cases rx; rfl)
    | (obtain ⟨t, rfl⟩ := rx; rfl)
theorem OpR.or {f : Value → Value → Sem Value} {r r' : R2} (h : OpR X f r) (h' : OpR X f r') : OpR X f (fun x y H Q => r x y H Q ∨ r' x y H Q) := by
  intro pins s σ H x y v u Q I rx ry q
  rcases q with q | q
  · exact h pins s σ H x y v u Q I rx ry q
  · exact h' pins s σ H x y v u Q I rx ry q

theorem nomark (b : Expr) {op : CmpOp} (h : op ≠ .In := by decide) (h2 : op ≠ .NotIn := by decide) : behindInMarks op b = false := by
  have e1 : (op == CmpOp.In) = false := by cases op <;> first | rfl | exact absurd rfl h
  have e2 : (op == CmpOp.NotIn) = false := by cases op <;> first | rfl | exact absurd rfl h2
  cases b <;> simp [behindInMarks, e1, e2]
theorem pe_cmpR {op : CmpOp} {r : R2} (ho : OpR X (compareOp op) r) (ha : PE X a ta) (hb : PE X b tb) (hm : behindInMarks op b = false) : PE X (.Compare a [op] [b] pos) (tOp r ta tb) := by
  intro pins s σ H Q I h
  exact wpAny_Compare1 (binT ha hb I h fun v u s2 x y H2 I2 rx ry q => ho pins s2 σ H2 x y v u Q I2 rx ry q) hm
def tTest (t : TE) : TT := fun σ H Q => t σ H fun x H' => ∃ k, x = .bl k ∧ Q k H'
theorem pt_cmpR {op : CmpOp} {r : R2} (ho : OpR X (compareOp op) r) (ha : PE X a ta) (hb : PE X b tb) (hm : behindInMarks op b = false) : PT X (.Compare a [op] [b] pos) (tTest (tOp r ta tb)) := by
  intro pins s σ H Q I h
  refine wpAny_isTrue_Compare1 (thn (ha pins s σ H _ I h) fun v s1 ⟨x, H1, I1, r1, q1⟩ => thn (hb pins s1 σ H1 _ I1 q1) fun u s2 ⟨y, H2, I2, r2, q2⟩ =>
    thn (ho pins s2 σ H2 x y v u _ I2 r1 r2 q2) fun c s3 ⟨z, H3, I3, r3, k, e, q3⟩ => ?_) hm
  subst e
  cases r3
  exact wpAny_truthy_bool ⟨H3, I3, q3⟩
theorem line63 : (sizeLine : Nat) < 2 ^ 63 := by rw [sizeLine_eq]; decide
theorem op_add_str : OpR X (binaryOp .Add) (fun x y H Q => ∃ i j, x = .str i ∧ y = .str j ∧ i.length + j.length ≤ sizeLine ∧ Q (.str (i ++ j)) H) := by
  intro pins s σ H x y v u Q I rx ry h
  obtain ⟨i, j, rfl, rfl, hz, q⟩ := h
  obtain ⟨t, rfl⟩ := rx
  obtain ⟨t', rfl⟩ := ry
  exact add_str (fun t' tk => ⟨.str (i ++ j), H, I.tok _, ⟨_, rfl⟩, q⟩) hz
theorem vals1 {x : V} {us : List Value} (r : Vals [x] us) : ∃ u, us = [u] ∧ RelV x u := by
  cases r with
  | cons r1 r2 => cases r2; exact ⟨_, rfl, r1⟩
theorem call_int1 : CallR X (.type "int") (fun xs H Q => (∃ i, xs = [.int i] ∧ Q (.int i) H) ∨ ∃ k, xs = [.bl k] ∧ Q (.int (if k then 1 else 0)) H) := by
  intro pins s σ H xs us Q I r h
  rcases h with ⟨i, rfl, q⟩ | ⟨k, rfl, q⟩
  · obtain ⟨u, rfl, t, rfl⟩ := vals1 r
    exact call_int_int ⟨.int i, H, I, ⟨_, rfl⟩, q⟩
  · obtain ⟨u, rfl, r1⟩ := vals1 r
    cases r1
    exact call_int_bool ⟨.int (if k then 1 else 0), H, I.tok _, ⟨_, rfl⟩, q⟩
end
end L2
namespace L2
open PySem PySem.Spec PyProof.Rows
structure ObjM (h : Heap) (x dx C : Addr) (mA : Str → Option Value) : Prop where
  obj : h.get? x = some (PySem.W.instObj C dx)
  ns : h.Ns1 dx mA
  ne : dx ≠ x

theorem lookIn_ns {h : Heap} {dx : Addr} {mA : Str → Option Value} (n : h.Ns1 dx mA) : ∃ od, h.get? dx = some od ∧ ∀ name, PySem.W.lookIn name od = some (mA name) := by
  obtain ⟨o, es, ep, ho, hd, hk, _, hm⟩ := n
  refine ⟨o, ho, fun name => ?_⟩
  have e := hm name
  unfold nsFind findBy at e
  rw [← Array.find?_toList] at e
  unfold PySem.W.lookIn
  rw [hd]
  dsimp only
  split
  · rename_i y q
    rw [q] at e
    exact congrArg some e
  · rename_i q
    rw [q] at e
    have a : es.toList.any (·.refKey) = false := by
      rw [List.any_eq_false]
      intro y hy
      obtain ⟨z, t, hkey⟩ := hk y (Array.mem_toList_iff.mp hy)
      simp [DictEntry.refKey, hkey]
    have a' : ¬ es.toList.any (·.refKey) = true := by rw [a]; exact Bool.false_ne_true
    rw [if_neg a']
    exact congrArg some e

theorem ObjM.look {h : Heap} {x dx C : Addr} {mA : Str → Option Value} (I : ObjM h x dx C mA) : ∃ od, PySem.W.InstAt h x (PySem.W.instObj C dx) C (some od) ∧ ∀ name, PySem.W.lookIn name od = some (mA name) :=
  let ⟨od, ho, hl⟩ := lookIn_ns I.ns
  ⟨od, ⟨I.obj, rfl, rfl, ho⟩, hl⟩

section
variable {prog : Program} {w : World} {A : Around} {E : Value → Shared → Prop} {s : Shared} {K : PySem.W.Frag} {x dx C f : Addr} {mA : Str → Option Value} {name : Str} {v : Value}
end
section
variable {P : Program} {w : World} {H H' : Hp} {h h' : Heap} {a C dx : Addr} {fs fs' : List (Str × V)}
theorem ins_get (hok : HOk P w H h) (e : H a = some (.ins C dx fs)) : ∃ mA, ObjM h a dx C mA ∧ (∀ f, RelO (fs.lookup f) (mA f)) ∧ PySem.Within mA (fs.map (·.1)) ∧ fs.length ≤ 1000 ∧ H dx = some (.own a) := by
  obtain ⟨d, z, ne, ob, mA, n, r, q⟩ := (show ObjOk P w H h a (.ins C dx fs) from hok a _ e)
  exact ⟨mA, ⟨ob, n, ne⟩, r, q, z, d⟩
end
structure Cls (K : PySem.W.Frag) (C : Addr) : Prop where
  pg : PySem.W.plainGet K C Str.empty = true
  hd : PySem.W.hasDictIn K C = true
  po : PySem.W.plainOver K C = true
  sa : PySem.W.findIn K (.ref C) "__setattr__" = some (some (.builtin "object.__setattr__"))
theorem Cls.get {K : PySem.W.Frag} {C : Addr} (c : Cls K C) (f : Str) : PySem.W.plainGet K C f = true := c.pg
section
variable {X : Cx} {pins : List (Addr × Obj)} {σ : St} {H : Hp} {s : Shared} {a C dx : Addr} {fs : List (Str × V)} {f : Str} {v : V} {A : Around} {E : Value → Shared → Prop}
theorem Inv.made (I : Inv X pins σ H s) : Inv X pins σ (upd (upd H s.heap.objs.size (.own (s.heap.objs.size + 1))) (s.heap.objs.size + 1) (.ins C s.heap.objs.size []))
    { s with heap := (s.heap.push PySem.W.emptyDict).push (PySem.W.instObj C s.heap.objs.size) } := by
  have e1 : (s.heap.push PySem.W.emptyDict).get? s.heap.objs.size = some PySem.W.emptyDict := Heap.get?_push_size s.heap rfl
  have e2 : ((s.heap.push PySem.W.emptyDict).push (PySem.W.instObj C s.heap.objs.size)).get? (s.heap.objs.size + 1) = some (PySem.W.instObj C s.heap.objs.size) := by
    have := Heap.get?_push_size (s.heap.push PySem.W.emptyDict) (o := PySem.W.instObj C s.heap.objs.size) rfl
    rwa [Heap.size_push] at this
  have e3 : (s.heap.push PySem.W.emptyDict).Ns s.heap.objs.size (fun _ => none) := ⟨PySem.W.emptyDict, #[], _, e1, rfl, (fun e he => absurd he (by simp)), fun _ => rfl⟩
  have I1 := I.laid (a := s.heap.objs.size) (o := .own (s.heap.objs.size + 1)) (h' := s.heap.push PySem.W.emptyDict) (t' := s.toks) (fun b u q => Heap.get?_push_of_some _ q) (Nat.le_refl _) ⟨_, e1⟩
  refine I1.laid (a := s.heap.objs.size + 1) (o := .ins C s.heap.objs.size []) (t' := s.toks) (fun b u q => Heap.get?_push_of_some _ q) (Nat.le_of_eq (Heap.size_push _ _)) ?_
  have ne : s.heap.objs.size ≠ s.heap.objs.size + 1 := Nat.ne_of_lt (Nat.lt_succ_self _)
  refine ⟨by rw [upd_ne ne, upd_same], Nat.zero_le _, ne, e2, fun _ => none, (Heap.Ns1.of_empty e3).at fun o q => Heap.get?_push_of_some _ q, fun _ => True.intro, fun y hy => absurd rfl hy⟩

end
section
variable {X : Cx} {o e value : Expr} {f : Str} {pos pos' tpos : Pos} {ta tv : TE}
end
section
variable {X : Cx} {pins : List (Addr × Obj)} {σ : St} {H : Hp} {s : Shared} {A : Around} {E : Value → Shared → Prop} {Q : Value → Shared → Prop} {c : Value} {b : Bool}
inductive TyOf (K : PySem.W.Frag) (H : Hp) : V → Value → Prop where
  | non : TyOf K H .non (.type "NoneType")
  | bl (x : Bool) : TyOf K H (.bl x) (.type "bool")
  | int (i : Int) : TyOf K H (.int i) (.type "int")
  | str (x : Str) : TyOf K H (.str x) (.type "str")
  | flt (x : UInt64) : TyOf K H (.flt x) (.type "float")
  | lst {a : Addr} {xs : List V} (e : H a = some (.lst xs)) : TyOf K H (.ref a) (.type "list")
  | frz {a : Addr} {o : Obj} {xs : List V} (e : H a = some (.frz o (.lst xs))) : TyOf K H (.ref a) (.type "list")
  | tup {a : Addr} {xs : List V} (e : H a = some (.tup xs)) : TyOf K H (.ref a) (.type "tuple")
  | dK {a : Addr} {kvs : List (Key × V)} (e : H a = some (.dK kvs)) : TyOf K H (.ref a) (.type "dict")
  | dT {a : Addr} {kvs : List (List Key × V)} (e : H a = some (.dT kvs)) : TyOf K H (.ref a) (.type "dict")
  | ins {a C dx : Addr} {fs : List (Str × V)} (e : H a = some (.ins C dx fs)) (cl : Cls K C) (ha : PySem.W.findIn K (.ref C) "__class__" = some (some (.builtin "object.__class__")))
      (hn : PySem.W.specialIn K (.builtin "object.__class__") "__get__" = some (some (.builtin "getset_descriptor.__get__"))) (htk : PySem.W.takesIn K (.builtin "object.__class__") = some true)
      (hm : PySem.W.mroIn K C (.type "object") = some true) : TyOf K H (.ref a) (.ref C)
end
end L2
namespace L2
open PySem PySem.Spec PyProof.Rows
structure Room (k : Nat) (A : Around) : Prop where
  hd : A.handled = none
  dp : A.depth + 3 * k + 5 < recursionLimit
  un : A.units + 16 * k + 200 < cLine
theorem Room.mono {j k : Nat} {A : Around} (r : Room k A) (h : j ≤ k) : Room j A := ⟨r.hd, by have := r.dp; omega, by have := r.un; omega⟩
theorem Room.deeper {k : Nat} {A : Around} (r : Room (k + 1) A) (env : Env) : Room k (A.deeper env) :=
  ⟨r.hd, by have := r.dp; show A.depth + 1 + 3 * k + 5 < _; omega, by have := r.un; show A.units + 3 + 16 * k + 200 < _; omega⟩
theorem Room.in1 {k : Nat} {A : Around} (r : Room (k + 1) A) : Room k A.in1 :=
  ⟨r.hd, by have := r.dp; show A.depth + 3 * k + 5 < _; omega, by have := r.un; show A.units + 1 + 16 * k + 200 < _; omega⟩
theorem Room.depth {k : Nat} {A : Around} (r : Room k A) : A.depth < recursionLimit := by have := r.dp; omega
theorem Room.units {k : Nat} {A : Around} (r : Room k A) : A.units + 64 < cLine := by have := r.un; omega
def tNil : TA := fun _ H Q => Q [] H
def tCons (ta : TE) (tr : TA) : TA := fun σ H Q => ta σ H fun x H1 => tr σ H1 fun xs H2 => Q (x :: xs) H2
section
variable {X : Cx} {e : Expr} {es : List Expr} {te : TE} {t : TA} {pos : Pos}
theorem pa_nil : PA X [] tNil := fun _ _ _ _ H Q I h => Calls.spliced_nil ⟨[], H, I, .nil, h⟩
theorem pa_cons (ha : PE X e te) (hr : PA X es t) (hs : starEach (e :: es) X.env = (false, eval e X.env) :: starEach es X.env := by rfl) : PA X (e :: es) (tCons te t) := by
  intro pos pins s σ H Q I h
  rw [hs]
  show wpAny _ _ (spliced ((false, eval e X.env) :: backTo pos (starEach es X.env))) _ _ s
  refine Calls.spliced_cons (thn (ha pins s σ H _ I h) fun u s1 ⟨x, H1, I1, r1, q1⟩ => ?_)
  exact thn (hr pos pins s1 σ H1 _ I1 q1) fun us s2 ⟨xs, H2, I2, r2, q2⟩ => ⟨x :: xs, H2, I2, .cons r1 r2, q2⟩

def tTup (t : TA) : TE := fun σ H Q => t σ H fun xs H1 => xs.length ≤ sizeLine ∧ ∀ p, H1 p = none → Q (.ref p) (upd H1 p (.tup xs))
def tLst (t : TA) : TE := fun σ H Q => t σ H fun xs H1 => xs.length ≤ sizeLine ∧ ∀ p, H1 p = none → Q (.ref p) (upd H1 p (.lst xs))
theorem pe_tup {x1} (h : PA X es t) : PE X (.Tuple es x1 pos) (tTup t) := by
  intro pins s σ H Q I hq
  refine wpAny_Tuple_spliced (thn (h pos pins s σ H _ I hq) fun us s1 ⟨xs, H1, I1, r, z, q⟩ => ⟨by rw [← r.length]; exact z, ?_⟩)
  have hf : H1 s1.heap.objs.size = none := I1.hok.fresh (Nat.le_refl _)
  refine ⟨.ref s1.heap.objs.size, upd H1 s1.heap.objs.size (.tup xs), I1.laid (t' := s1.toks) (fun b u e => Heap.get?_push_of_some _ e) (Nat.le_refl _) ?_, rfl, q _ hf⟩
  exact ⟨z, us, r, ⟨_, Heap.get?_push_size _ rfl, rfl, _, rfl⟩⟩
theorem pe_lst (h : PA X es t) : PE X (.List es pos) (tLst t) := by
  intro pins s σ H Q I hq
  refine wpAny_List_spliced (thn (h pos pins s σ H _ I hq) fun us s1 ⟨xs, H1, I1, r, z, q⟩ => ⟨by rw [← r.length]; exact z, ?_⟩)
  have hf : H1 s1.heap.objs.size = none := I1.hok.fresh (Nat.le_refl _)
  refine ⟨.ref s1.heap.objs.size, upd H1 s1.heap.objs.size (.lst xs), I1.laid (t' := s1.toks) (fun b u e => Heap.get?_push_of_some _ e) (Nat.le_refl _) ?_, rfl, q _ hf⟩
  exact ⟨z, us, 0, r, Heap.get?_push_size _ rfl⟩
end
abbrev Sp := List V → Hp → VK → XK → Prop
abbrev CXT := List Env → Hp → Shared → XK → Value → Shared → Prop

structure Env0 (P : Program) (w : World) (K : PySem.W.Frag) (mg : Str → Option Value) (base : Heap) (A : Around) (outer : List Env) (s : Shared) (H : Hp) : Prop where
  frames : A.frames = some outer
  mod : Mod K mg base
  bs : ∀ b o, base.get? b = some o → s.heap.get? b = some o ∧ H b = none
  bsz : base.objs.size ≤ s.heap.objs.size
  funs : s.heap.FunFrames base outer
  frf : ∀ b ∈ frs outer, H b = none
  hok : HOk P w H s.heap
  bare : AllBare s.gens
def CE (outer : List Env) (P : Program) (w : World) (H : Hp) (s : Shared) (Q : VK) (u : Value) (s' : Shared) : Prop :=
  ∃ v H', s'.os = s.os ∧ AllBare s'.gens ∧ Un (frs outer) [] H H' s.heap s'.heap ∧ HOk P w H' s'.heap ∧ RelV v u ∧ Q v H'
def CR (CX : CXT) (outer : List Env) (P : Program) (w : World) (H : Hp) (s : Shared) (Q : VK) (E : XK) (r : Result) (s' : Shared) : Prop :=
  match r with
  | .ok (.ret u) => CE outer P w H s Q u s'
  | .ok _ => False
  | .error e => CX outer H s E e s'
structure FnOk (P : Program) (w : World) (K : PySem.W.Frag) (mg : Str → Option Value) (base : Heap) (CX : CXT) (k : Nat) (f : Addr) (fd : FuncData) (ps : List Str) (sp : Sp) : Prop where
  len : ∀ vs H Q E, sp vs H Q E → vs.length = ps.length
  run : ∀ (A : Around) (outer : List Env) (s : Shared) (H : Hp) (args : Args) (us : List Value) (vs : List V) (Q : VK) (E : XK), Room k A → Env0 P w K mg base A outer s H → BindsTo s fd args (ps.zip us) → Vals vs us → sp vs H Q E →
    codeAny (model P w) A (.call (.ref f) args) (CR CX outer P w H s Q E) s
theorem FnOk.mono {P : Program} {w : World} {K : PySem.W.Frag} {mg : Str → Option Value} {base : Heap} {CX : CXT} {j k : Nat} {f : Addr} {fd : FuncData} {ps : List Str} {sp : Sp} (F : FnOk P w K mg base CX j f fd ps sp) (h : j ≤ k) :
    FnOk P w K mg base CX k f fd ps sp := ⟨F.len, fun A outer s H args us vs Q E hr => F.run A outer s H args us vs Q E (hr.mono h)⟩
theorem Env0.in1 {P : Program} {w : World} {K : PySem.W.Frag} {mg : Str → Option Value} {base : Heap} {A : Around} {outer : List Env} {s : Shared} {H : Hp} (e : Env0 P w K mg base A outer s H) :
    Env0 P w K mg base A.in1 outer s H := ⟨e.frames, e.mod, e.bs, e.bsz, e.funs, e.frf, e.hok, e.bare⟩

section
variable {X : Cx} {pins : List (Addr × Obj)} {σ : St} {H : Hp} {s s' : Shared}
theorem Inv.env0 (I : Inv X pins σ H s) : Env0 X.prog X.w X.K X.mg X.base X.A X.stack s H :=
  ⟨I.ok.frames, I.ok.mod, I.bs, Nat.le_trans I.ok.bsz I.sz, I.stack, I.stkFree, I.hok, I.bare⟩
theorem Inv.after {Q : VK} {u : Value} (I : Inv X pins σ H s) (h : CE X.stack X.prog X.w H s Q u s') : EP X pins σ Q u s' := by
  obtain ⟨v, H', os, bare, un, hok, r, q⟩ := h
  obtain ⟨hh, g, d, t, os'⟩ := s'
  obtain rfl : os' = s.os := os
  exact ⟨v, H', I.call (h' := hh) (g' := g) (d' := d) (t' := t) (ch := []) un hok bare (fun b z => absurd z (by simp)), r, q⟩
end
def tCall (sp : Sp) (dvs : List V) (E : XK) (t : TA) : TE := fun σ H Q => t σ H fun vs H1 => sp (vs ++ dvs) H1 Q E
def Binds (K : PySem.W.Frag) (fd : FuncData) (ps : List Str) (ds : List Value) : Prop :=
  ∀ (s : Shared) (us : List Value), K.In s.heap → (us ++ ds).length = ps.length → BindsTo s fd ⟨us, []⟩ (ps.zip (us ++ ds))
theorem Binds.all {K : PySem.W.Frag} {fd : FuncData} {ps : List Str} (h : ∀ us : List Value, us.length = ps.length → bindArgs fd ⟨us, []⟩ = pure (ps.zip us)) : Binds K fd ps [] := fun s us _ hl => by
  rw [List.append_nil] at hl ⊢
  exact .of_eq (h us hl)

def Passes (CX : CXT) (X : Cx) (E : XK) : Prop := ∀ (pins : List (Addr × Obj)) (σ : St) (H : Hp) (s : Shared) (e : Value) (s' : Shared), Inv X pins σ H s → CX X.stack H s E e s' → X.xe e s'

section
variable {X : Cx} {CX : CXT} {k : Nat} {f C : Addr} {fd : FuncData} {ps : List Str} {sp : Sp} {dvs : List V} {ds : List Value} {E : XK} {x m : Str} {p pos apos : Pos} {e o : Expr} {es : List Expr} {ta : TE} {t : TA}
theorem run_fn {pins : List (Addr × Obj)} {σ : St} {H : Hp} {s : Shared} {Q : VK} {us : List Value} {vs : List V} (F : FnOk X.prog X.w X.K X.mg X.base CX k f fd ps sp) (hr : Room k X.A) (hb : Binds X.K fd ps ds) (hd : Vals dvs ds) (hx : Passes CX X E)
    (I : Inv X pins σ H s) (r : Vals vs us) (h : sp (vs ++ dvs) H Q E) : wpAny (model X.prog X.w) X.A (call (.ref f) us) (EP X pins σ Q) X.xe s := by
  have r2 : Vals (vs ++ dvs) (us ++ ds) := r.append hd
  have hl : (us ++ ds).length = ps.length := by rw [← r2.length]; exact F.len _ _ _ _ h
  refine wpAny_call (codeAny_mono (F.run X.A X.stack s H ⟨us, []⟩ (us ++ ds) (vs ++ dvs) Q E hr I.env0 (hb s us I.kIn hl) r2 h) fun r s' hq => ?_)
  cases r with
  | error e => exact hx pins σ H s e s' I hq
  | ok fl =>
    cases fl with
    | ret u => exact I.after hq
    | next => exact False.elim hq
    | brk => exact False.elim hq
    | cont => exact False.elim hq

theorem pe_call (F : FnOk X.prog X.w X.K X.mg X.base CX k f fd ps sp) (hr : Room k X.A) (hg : Gl X x) (hm : X.mg x = some (.ref f)) (hk : PySem.W.keepIn X.K (.ref f) = true) (hb : Binds X.K fd ps ds) (hd : Vals dvs ds) (hx : Passes CX X E)
    (ha : PA X (e :: es) t) (hdb : (x == ("__debug__" : Str)) = false := by decide) (he : starEach (e :: es) X.env = (false, eval e X.env) :: starEach es X.env := by rfl) (hpl : (backTo pos (starEach es X.env)).any (·.1) = false := by rfl) :
    PE X (.Call (.Name x p) (e :: es) [] pos) (tCall sp dvs E t) := by
  intro pins s σ H Q I h
  refine wpAny_Call_Name_kw (ld_glob I hg hm ?_ hdb)
  refine PySem.W.callWith_K (h₀ := X.base) I.ok.mod.kin hk (thn (ha pos pins s σ H _ I h) fun us s1 ⟨vs, H1, I1, r, q⟩ => ⟨I1.kIn, ?_⟩) he hpl
  exact run_fn F hr hb hd hx I1 r q
end
def PK (X : Cx) (kws : List Keyword) (t : TA) : Prop :=
  ∀ (pos : Pos) (pins : List (Addr × Obj)) (s : Shared) (σ : St) (H : Hp) (Q : List V → Hp → Prop), Inv X pins σ H s → t σ H Q → wpAny (model X.prog X.w) X.A (evalAll ((backToKw pos (keywordEach kws X.env)).map (·.2))) (AP X pins σ Q) X.xe s
section
variable {X : Cx} {CX : CXT} {k : Nat} {f C : Addr} {fd : FuncData} {ps ks : List Str} {sp : Sp} {E : XK} {x m : Str} {p pos apos kpos : Pos} {e o : Expr} {es : List Expr} {kws : List Keyword} {te ta : TE} {t tk : TA} {nm : Option Str}
theorem pk_nil : PK X [] tNil := fun _ _ _ _ H Q I h => wpAny_evalAll_nil ⟨[], H, I, .nil, h⟩
theorem pk_cons (ha : PE X e te) (hr : PK X kws t) : PK X (⟨nm, e, kpos⟩ :: kws) (tCons te t) := by
  intro pos pins s σ H Q I h
  show wpAny _ _ (evalAll ((do let v ← eval e X.env; standAt pos; pure v) :: (backToKw pos (keywordEach kws X.env)).map (·.2))) _ _ s
  refine wpAny_evalAll_cons (wpAny_bind (thn (ha pins s σ H _ I h) fun u s1 ⟨x, H1, I1, r1, q1⟩ => wpAny_bind (wpAny_standAt (wpAny_pure ?_))))
  exact thn (hr pos pins s1 σ H1 _ I1 q1) fun us s2 ⟨xs, H2, I2, r2, q2⟩ => ⟨x :: xs, H2, I2, .cons r1 r2, q2⟩

variable {g : List Value → List Value → List Value} {gV : List V → List V → List V}
end
structure FnScope (N P : List Str) (sc : Scope) : Prop where
  kind : sc.kind = .function
  co : sc.isCoroutine = false
  gen : sc.isGenerator = false
  nd : N.Nodup
  pre : N.take P.length = P
  par : ∀ x ∈ P, sc.names.lookup x = some .local ∨ sc.names.lookup x = some .cell
  nofree : ∀ y ∈ sc.names, y.2 ≠ .free

theorem bindL_out {kindOf : Str → Option NameKind} {x : Str} : ∀ {binds : List (Str × Value)} {m : Str → Option Value}, (∀ v, (x, v) ∉ binds) → bindL kindOf binds m x = m x
  | [], _, _ => rfl
  | (n, v) :: r, m, h => by
    unfold bindL
    rw [bindL_out fun w hw => h w (List.mem_cons_of_mem _ hw)]
    split
    · have : x ≠ n := by rintro rfl; exact h v List.mem_cons_self
      simp [this]
    · rfl
theorem bindC_out {kindOf : Str → Option NameKind} {x : Str} : ∀ {binds : List (Str × Value)} {m : Str → Option Value}, (∀ v, (x, v) ∉ binds) → bindC kindOf binds m x = m x
  | [], _, _ => rfl
  | (n, v) :: r, m, h => by
    unfold bindC
    rw [bindC_out fun w hw => h w (List.mem_cons_of_mem _ hw)]
    split
    · rfl
    · have : x ≠ n := by rintro rfl; exact h v List.mem_cons_self
      simp [this]
theorem bindL_get {kindOf : Str → Option NameKind} {x : Str} {v : Value} : ∀ {P : List Str} {vs : List Value} {i : Nat} {m : Str → Option Value}, P.Nodup → P[i]? = some x → vs[i]? = some v → kindOf x = some .local →
    bindL kindOf (P.zip vs) m x = some v
  | [], _, _, _, _, h, _, _ => by simp at h
  | _ :: _, [], _, _, _, _, h, _ => by simp at h
  | p :: P, w :: vs, 0, m, nd, h1, h2, hk => by
    simp at h1 h2; subst h1; subst h2
    show bindL kindOf ((p, w) :: P.zip vs) m p = _
    unfold bindL
    rw [bindL_out fun v hv => (List.nodup_cons.mp nd).1 (List.of_mem_zip hv).1, if_pos hk]
    simp
  | p :: P, w :: vs, i + 1, m, nd, h1, h2, hk => by
    show bindL kindOf ((p, w) :: P.zip vs) m x = _
    unfold bindL
    exact bindL_get (i := i) (List.nodup_cons.mp nd).2 (by simpa using h1) (by simpa using h2) hk
theorem bindC_get {kindOf : Str → Option NameKind} {x : Str} {v : Value} : ∀ {P : List Str} {vs : List Value} {i : Nat} {m : Str → Option Value}, P.Nodup → P[i]? = some x → vs[i]? = some v → kindOf x ≠ some .local →
    bindC kindOf (P.zip vs) m x = some v
  | [], _, _, _, _, h, _, _ => by simp at h
  | _ :: _, [], _, _, _, _, h, _ => by simp at h
  | p :: P, w :: vs, 0, m, nd, h1, h2, hk => by
    simp at h1 h2; subst h1; subst h2
    show bindC kindOf ((p, w) :: P.zip vs) m p = _
    unfold bindC
    rw [bindC_out fun v hv => (List.nodup_cons.mp nd).1 (List.of_mem_zip hv).1, if_neg hk]
    simp
  | p :: P, w :: vs, i + 1, m, nd, h1, h2, hk => by
    show bindC kindOf ((p, w) :: P.zip vs) m x = _
    unfold bindC
    exact bindC_get (i := i) (List.nodup_cons.mp nd).2 (by simpa using h1) (by simpa using h2) hk

def start (N : List Str) (vs : List V) : St := vs.map some ++ List.replicate (N.length - vs.length) none

def cxOf (CX : CXT) (P : Program) (w : World) (K : PySem.W.Frag) (mg : Str → Option Value) (base : Heap) (N : List Str) (qual : Str) (scope : Scope) (f : Addr) (cd : Value) (A : Around) (outer : List Env) (s : Shared) (H : Hp) (E : XK) : Cx where
  prog := P
  w := w
  K := K
  mg := mg
  base := base
  A := A.deeper (envOfC qual scope s.heap.objs.size f cd)
  N := N
  s₀ := s
  H₀ := H
  env := envOfC qual scope s.heap.objs.size f cd
  outer := outer
  stack := envOfC qual scope s.heap.objs.size f cd :: outer
  ex := []
  calm := true
  fn := fun _ => true
  pn := []
  xe := fun e s' => wpAny (model P w) (A.deeper (envOfC qual scope s.heap.objs.size f cd)) (leaving (envOfC qual scope s.heap.objs.size f cd) e) (fun _ s'' => CX outer H s E e s'') (fun e' s'' => CX outer H s E e' s'') s'

theorem cell_has {sc : Scope} {n : Nat} {x : Str} (h : sc.names.lookup x = some .cell) : ∃ c, (cellsFrom n sc.names []).lookup x = some c := by
  have q := PySem.W.cellsFrom_some sc.names n [] (.inl h)
  exact Option.isSome_iff_exists.mp q

theorem inv_start {CX : CXT} {P : Program} {w : World} {K : PySem.W.Frag} {mg : Str → Option Value} {base : Heap} {N ps : List Str} {qual : Str} {scope : Scope} {f : Addr} {cd : Value} {A : Around} {outer : List Env} {s s1 : Shared} {H : Hp} {E : XK} {us : List Value} {vs : List V}
    (S : FnScope N ps scope) (hd : A.handled = none) (e0 : Env0 P w K mg base A outer s H) (hl : vs.length = ps.length) (r : Vals vs us)
    (x : InCallC s s.heap.objs.size (bindL (envOfC qual scope s.heap.objs.size f cd).kindOf (ps.zip us) fun _ => none) (cellsFrom (s.heap.objs.size + 1) scope.names []) (bindC (envOfC qual scope s.heap.objs.size f cd).kindOf (ps.zip us) fun _ => none) s1) :
    Inv (cxOf CX P w K mg base N qual scope f cd A outer s H E) [] (start N vs) H s1 := by
  have hpl : ps.length ≤ N.length := by have := congrArg List.length S.pre; rw [List.length_take] at this; omega
  obtain ⟨h1, tk, rfl, hk⟩ := x.done
  have noA : ∀ b : Addr, b ∉ (cxOf CX P w K mg base N qual scope f cd A outer s H E).ex := fun b z => absurd (show b ∈ ([] : List Addr) from z) (by simp)
  refine ⟨⟨e0.mod, S.kind, rfl, rfl, Nat.le_refl _, fun y z c h1 h2 => ?_, fun y hy => ?_, fun y c _ h => ?_, fun _ => hd, Around.frames_deeper e0.frames, .inr ⟨rfl, rfl⟩, fun b z => absurd z (noA b), e0.bs, e0.bsz, fun b _ _ => noA b, fun b z => absurd z (noA b), e0.funs, e0.frf⟩,
    rfl, e0.bare, Un.kept hk, ⟨_, x.toInCall.ns, fun i y v h1 h2 h3 => ?_⟩, fun y c h => ⟨_, x.cell y c h⟩, e0.hok.fresh (Nat.le_refl _), fun y c h => ?_, fun p hp => absurd (show p ∈ ([] : List (Addr × Obj)) from hp) (by simp), e0.hok.kept hk, ?_⟩
  · exact name_of_addr x.apart (PySem.mem_of_lookup h1) (PySem.mem_of_lookup h2)
  · have hy : scope.names.lookup y = some .cell ∨ scope.names.lookup y = some .free := hy
    rcases hy with hy | hy
    · exact cell_has hy
    · exact absurd rfl (S.nofree _ (PySem.mem_of_lookup hy))
  · exact Nat.le_of_lt (x.above y c (PySem.mem_of_lookup h))
  · have hi : i < vs.length := by
      unfold start at h2
      by_cases hi : i < vs.length
      · exact hi
      · rw [List.getElem?_append_right (by simpa using hi)] at h2
        rw [List.getElem?_replicate] at h2
        split at h2 <;> cases h2
    have ha : vs[i]? = some v := by
      unfold start at h2
      rw [List.getElem?_append_left (by simpa using hi), List.getElem?_map] at h2
      cases e : vs[i]? with
      | none => rw [e] at h2; cases h2
      | some a => rw [e] at h2; cases h2; rfl
    obtain ⟨u, hu, rv⟩ := r.get ha
    have hp : ps[i]? = some y := by
      rw [← S.pre, List.getElem?_take_of_lt (by omega)]; exact h1
    have ndP : ps.Nodup := by rw [← S.pre]; exact S.nd.sublist (List.take_sublist _ _)
    refine ⟨u, rv, ?_⟩
    rcases S.par y (List.mem_of_getElem? hp) with k | k
    · exact .inl ⟨k, bindL_get ndP hp hu k⟩
    · obtain ⟨c, e⟩ := cell_has (n := s.heap.objs.size + 1) k
      refine .inr ⟨.inl k, c, e, ?_⟩
      have q := x.cell y c e
      rw [bindC_get ndP hp hu (by show scope.names.lookup y ≠ _; rw [k]; decide)] at q
      exact q
  · exact e0.hok.fresh (Nat.le_of_lt (x.above y c (PySem.mem_of_lookup h)))
  · unfold start
    show _ = N.length
    rw [List.length_append, List.length_map, List.length_replicate]
    omega

theorem fn_of {CX : CXT} {P : Program} {w : World} {K : PySem.W.Frag} {mg : Str → Option Value} {base : Heap} {k : Nat} {f : Addr} {name qual : Str} {params : Arguments} {body : List Stmt} {scope : Scope} {dV kV doc pm cdv ct oc : Value} {an od : Option Addr}
    {osl : Array (Option Value)} {N ps : List Str} {sp : Sp} (lk : K.lookup f = some ⟨oc, od, .func (PySem.W.fnOf name qual params body scope dV kV doc pm an cdv ct), osl⟩) (hcd : PySem.W.codeIn K cdv qual = true) (S : FnScope N ps scope)
    (len : ∀ vs H Q E, sp vs H Q E → vs.length = ps.length)
    (hbody : ∀ (A : Around) (outer : List Env) (s : Shared) (H : Hp) (vs : List V) (Q : VK) (E : XK), Room k (A.deeper (envOfC qual scope s.heap.objs.size f cdv)) → sp vs H Q E →
      ∃ t, PSs (cxOf CX P w K mg base N qual scope f cdv A outer s H E) body t ∧ t { nx := fun _ H' => Q .non H', rt := Q } (start N vs) H) :
    FnOk P w K mg base CX (k + 1) f (PySem.W.fnOf name qual params body scope dV kV doc pm an cdv ct) ps sp := by
  refine ⟨len, fun A outer s H args us vs Q E hr e0 hb r hsp => ?_⟩
  have hl := len _ _ _ _ hsp
  have KX : K.In s.heap := e0.mod.kin.keeps fun b o e => (e0.bs b o e).1
  have lim : s.heap.NoLimit := e0.mod.nolimit.keeps fun b o e => (e0.bs b o e).1
  have hkind : ∀ y ∈ ps.zip us, scope.names.lookup y.1 = some .local ∨ (scope.names.lookup y.1 = some .cell ∧ ((cellsFrom (s.heap.objs.size + 1) scope.names []).lookup y.1).isSome = true) := fun ⟨n, v⟩ hy => by
    rcases S.par n (List.of_mem_zip hy).1 with q | q
    · exact .inl q
    · exact .inr ⟨q, PySem.W.cellsFrom_some _ _ _ (.inl q)⟩
  refine codeAny_call_function hr.depth (KX _ _ lk) rfl S.co S.gen rfl (PySem.W.codeRec_of KX hcd) (hb _ _ _ _ ?_)
  refine wpAny_newFunctionEnv_cells S.kind hkind fun env he s1 x => ?_
  subst he
  refine ⟨lim.keeps x.toInCall.keep, codeAny_func ?_⟩
  obtain ⟨t, ht, hq⟩ := hbody A outer s H vs Q E (hr.deeper _) hsp
  have I : Inv (cxOf CX P w K mg base N qual scope f cdv A outer s H E) [] (start N vs) H s1 := inv_start S hr.hd e0 hl r x
  refine wpAny_mono (ht [] s1 (start N vs) H _ I hq) (fun fl s' hs => ?_) fun e s' hs => hs
  have fin : ∀ {σ' : St} {H' : Hp} {v : V} {u : Value}, Inv (cxOf CX P w K mg base N qual scope f cdv A outer s H E) [] σ' H' s' → RelV v u → Q v H' → CE outer P w H s Q u s' :=
    fun {σ' H' v u} J rv q => ⟨v, H', J.os, J.bare, J.base, J.hok, rv, q⟩
  cases fl with
  | ret u =>
    obtain ⟨v, σ', H', J, rv, q⟩ := hs
    exact fin J rv q
  | next =>
    obtain ⟨σ', H', J, q⟩ := hs
    exact fin (v := V.non) (u := Value.none) J rfl q
  | brk =>
    obtain ⟨_, _, _, q⟩ := hs
    exact False.elim q
  | cont =>
    obtain ⟨_, _, _, q⟩ := hs
    exact False.elim q
end L2
namespace L2
open PySem PySem.Spec PyProof.Rows
section
variable {X : Cx} {x : Str} {p pos : Pos} {e : Expr} {es : List Expr} {t : TA} {id T : String} {r : List V → Hp → VK → Prop}
def tCB (r : List V → Hp → VK → Prop) (t : TA) : TE := fun σ H Q => t σ H fun vs H1 => r vs H1 Q
theorem pe_callB (hc : CallR X (.builtin id) r) (hg : Gl X x) (hm : X.mg x = none) (hv : bootBuiltins x = some (.builtin id)) (ha : PA X (e :: es) t) (hn : x ≠ "__name__" := by decide) (hdb : (x == ("__debug__" : Str)) = false := by decide)
    (he : starEach (e :: es) X.env = (false, eval e X.env) :: starEach es X.env := by rfl) (hpl : (backTo pos (starEach es X.env)).any (·.1) = false := by rfl) : PE X (.Call (.Name x p) (e :: es) [] pos) (tCB r t) := by
  intro pins s σ H Q I h
  refine wpAny_Call_Name_kw (ld_blt I hg hm hv ?_ hn hdb)
  exact PyProof.Rows.callWith_builtin1 (thn (ha pos pins s σ H _ I h) fun us s1 ⟨vs, H1, I1, r1, q1⟩ => hc pins s1 σ H1 vs us Q I1 r1 q1) he hpl
theorem pe_callTy (hc : CallR X (.type T) r) (hg : Gl X x) (hm : X.mg x = none) (hv : bootBuiltins x = some (.type T)) (ha : PA X (e :: es) t) (hn : x ≠ "__name__" := by decide) (hdb : (x == ("__debug__" : Str)) = false := by decide)
    (he : starEach (e :: es) X.env = (false, eval e X.env) :: starEach es X.env := by rfl) (hpl : (backTo pos (starEach es X.env)).any (·.1) = false := by rfl) : PE X (.Call (.Name x p) (e :: es) [] pos) (tCB r t) := by
  intro pins s σ H Q I h
  refine wpAny_Call_Name_kw (ld_blt I hg hm hv ?_ hn hdb)
  exact PyProof.Rows.callWith_type1 (thn (ha pos pins s σ H _ I h) fun us s1 ⟨vs, H1, I1, r1, q1⟩ => hc pins s1 σ H1 vs us Q I1 r1 q1) he hpl
end
end L2
namespace HT
open PySem PyProof.Rows
section
open PySem.SeqAt
open PySem.AutoSeq1 (wpAny_loadPart')
open PySem.MeetsSeq PySem.MeetsSeq2 PySem.MeetsSeq3
end
section
variable {prog : Program} {w : World} {A : Around} {E : Value → Shared → Prop} {s : Shared}
def sIx (n d : Nat) : Option Int → Nat
  | none => d
  | some v => if v < 0 then (v + (n : Int)).toNat else min v.toNat n
end
end HT
namespace L2
open PySem PySem.Spec PyProof.Rows
abbrev TO := St → Hp → (Option Int → Hp → Prop) → Prop
def PO (X : Cx) (e : Option Expr) (t : TO) : Prop :=
  ∀ (pins : List (Addr × Obj)) (s : Shared) (σ : St) (H : Hp) (Q : Option Int → Hp → Prop), Inv X pins σ H s → t σ H Q →
    wpAny (model X.prog X.w) X.A (evalPart e X.env) (fun u s' => ∃ o H', Inv X pins σ H' s' ∧ IsPart u o ∧ Q o H') X.xe s
def tNoPart : TO := fun _ H Q => Q none H
def tPart (t : TE) : TO := fun σ H Q => t σ H fun x H1 => ∃ i, x = .int i ∧ Q (some i) H1

theorem intsAre_of {ns : List Int} : ∀ {us : List Value}, Vals (ns.map V.int) us → IntsAre us ns := by
  induction ns with
  | nil => intro us r; rw [List.map_nil] at r; cases r; exact .nil
  | cons n ns ih =>
    intro us r
    rw [List.map_cons] at r
    cases r with
    | cons r1 r2 =>
      obtain ⟨t, e⟩ := r1
      subst e
      exact .cons n t (ih r2)

section
variable {X : Cx} {e : Expr} {te : TE} {lo hi : Option Expr} {tl th : TO} {pos p2 : Pos}
theorem po_none : PO X none tNoPart := by
  intro pins s σ H Q I h
  rw [evalPart_none]
  exact wpAny_pure ⟨none, H, I, .none, h⟩
theorem po_some (h : PE X e te) : PO X (some e) (tPart te) := by
  intro pins s σ H Q I hw
  rw [evalPart_some]
  refine thn (h pins s σ H _ I hw) fun u s1 ⟨x, H1, I1, r1, q1⟩ => ?_
  obtain ⟨i, rfl, q⟩ := q1
  obtain ⟨t, rfl⟩ := r1
  exact ⟨some i, H1, I1, .int i t, q⟩

def SlR (X : Cx) (r : V → Option Int → Option Int → Hp → VK → Prop) : Prop :=
  ∀ (pins : List (Addr × Obj)) (s : Shared) (σ : St) (H : Hp) (x : V) (v vl vu : Value) (lo hi : Option Int) (sl : Addr) (Q : VK), Inv X pins σ H s → RelV x v → s.heap.IsSliceOf sl vl vu .none → IsPart vl lo → IsPart vu hi → r x lo hi H Q →
    ∃ T id, typeLookup (.type T) "__getitem__" = pure (some (.builtin id)) ∧ s.TypeIs v T ∧ wpAny (model X.prog X.w) X.A (getItem v (.ref sl)) (EP X pins σ Q) X.xe s
theorem SlR.or {r r' : V → Option Int → Option Int → Hp → VK → Prop} (h : SlR X r) (h' : SlR X r') : SlR X (fun x lo hi H Q => r x lo hi H Q ∨ r' x lo hi H Q) := by
  intro pins s σ H x v vl vu lo hi sl Q I rx hs pl pu q
  rcases q with q | q
  · exact h pins s σ H x v vl vu lo hi sl Q I rx hs pl pu q
  · exact h' pins s σ H x v vl vu lo hi sl Q I rx hs pl pu q
def tSl (r : V → Option Int → Option Int → Hp → VK → Prop) (te : TE) (tl th : TO) : TE := fun σ H Q => te σ H fun x H1 => tl σ H1 fun l H2 => th σ H2 fun u H3 => r x l u H3 Q
theorem pe_slice {r : V → Option Int → Option Int → Hp → VK → Prop} (hr : SlR X r) (he : PE X e te) (hl : PO X lo tl) (hu : PO X hi th) : PE X (.Subscript e (.Slice lo hi none p2) pos) (tSl r te tl th) := by
  intro pins s σ H Q I h
  refine Subscript_ (thn (he pins s σ H _ I h) fun v s1 ⟨x, H1, I1, r1, q1⟩ => ?_)
  refine wpAny_Slice (thn (hl pins s1 σ H1 _ I1 q1) fun vl s2 ⟨l, H2, I2, pl, q2⟩ => thn (hu pins s2 σ H2 _ I2 q2) fun vu s3 ⟨u, H3, I3, pu, q3⟩ => ?_)
  rw [evalPart_none]
  refine wpAny_pure ?_
  have I4 : Inv X pins σ H3 { s3 with heap := s3.heap.push { cls := .type "slice", data := .fields #[vl, vu, .none] } } := I3.kept (t' := s3.toks) fun b ob q => Heap.get?_push_of_some _ q
  obtain ⟨T, id, hT, ht, hg⟩ := hr pins { s3 with heap := s3.heap.push { cls := .type "slice", data := .fields #[vl, vu, .none] } } σ H3 x v vl vu l u s3.heap.objs.size Q I4 r1 (Heap.IsSliceOf.new ..) pl pu q3
  show wpAny (model X.prog X.w) X.A (subscriptTail e (.Slice lo hi none p2) v (.ref s3.heap.objs.size)) (EP X pins σ Q) X.xe { s3 with heap := s3.heap.push { cls := .type "slice", data := .fields #[vl, vu, .none] } }
  exact tail_any (ops := [.ref s3.heap.objs.size, v]) ht hT hg (by with_unfolding_all rfl)

def cutV (xs : List V) (lo hi : Option Int) : List V := (xs.drop (HT.sIx xs.length 0 lo)).take (HT.sIx xs.length xs.length hi - HT.sIx xs.length 0 lo)
theorem cutV_length (xs : List V) (lo hi : Option Int) : (cutV xs lo hi).length ≤ xs.length := by
  unfold cutV
  rw [List.length_take, List.length_drop]
  omega
end
end L2
namespace L2
open PySem PySem.Spec PyProof.Rows
def ixN (n : Nat) (i : Int) : Option Nat := if 0 ≤ i then (if i < n then some i.toNat else none) else if -(n : Int) ≤ i then some (i + n).toNat else none
def atI {α : Type} (xs : List α) (i : Int) : Option α := (ixN xs.length i).bind fun j => xs[j]?
theorem ixN_seq {n : Nat} {i : Int} {j : Nat} (h : ixN n i = some j) : seqIndex? i n = some j ∧ j < n ∧ -(n : Int) ≤ i ∧ i < n := by
  unfold ixN at h
  by_cases h0 : 0 ≤ i
  · rw [if_pos h0] at h
    by_cases h1 : i < n
    · rw [if_pos h1] at h
      have e : i.toNat = j := Option.some.inj h
      exact ⟨by rw [seqIndex_of h0 h1, e], by omega, by omega, h1⟩
    · rw [if_neg h1] at h; cases h
  · rw [if_neg h0] at h
    by_cases h1 : -(n : Int) ≤ i
    · rw [if_pos h1] at h
      have e : (i + n).toNat = j := Option.some.inj h
      exact ⟨by rw [seqIndex_neg (by omega) h1, e], by omega, h1, by omega⟩
    · rw [if_neg h1] at h; cases h
theorem atI_get {α : Type} {xs : List α} {i : Int} {v : α} (h : atI xs i = some v) : ∃ j, seqIndex? i xs.length = some j ∧ xs[j]? = some v ∧ j < xs.length ∧ -(xs.length : Int) ≤ i ∧ i < xs.length := by
  unfold atI at h
  cases e : ixN xs.length i with
  | none => rw [e] at h; cases h
  | some j =>
    rw [e] at h
    obtain ⟨h1, h2, h3, h4⟩ := ixN_seq e
    exact ⟨j, h1, h, h2, h3, h4⟩
theorem atI_nat {α : Type} {xs : List α} {j : Nat} {v : α} (h : xs[j]? = some v) : atI xs (j : Int) = some v := by
  have hj : j < xs.length := (List.getElem?_eq_some_iff.mp h).1
  have e : ixN xs.length (j : Int) = some j := by
    unfold ixN
    rw [if_pos (by omega), if_pos (by omega)]; simp
  unfold atI; rw [e]; exact h
def PlainIx (b : Expr) : Prop := ∀ o i, subscripted b false o i = operate [o, i] (getItem o i)
def IxR (X : Cx) (r : R2) : Prop :=
  ∀ (value slice : Expr) (pins : List (Addr × Obj)) (s : Shared) (σ : St) (H : Hp) (x y : V) (v u : Value) (Q : VK), Inv X pins σ H s → RelV x v → RelV y u → r x y H Q →
    subscripted slice false v u = operate [v, u] (getItem v u) → wpAny (model X.prog X.w) X.A (subscriptTail value slice v u) (EP X pins σ Q) X.xe s
def MtR (X : Cx) (id : String) (r : V → List V → Hp → VK → Prop) : Prop :=
  ∀ (pins : List (Addr × Obj)) (s : Shared) (σ : St) (H : Hp) (x : V) (xs : List V) (v : Value) (us : List Value) (Q : VK), Inv X pins σ H s → RelV x v → Vals xs us → r x xs H Q →
    wpAny (model X.prog X.w) X.A (call (.builtin id) (v :: us)) (EP X pins σ Q) X.xe s
section
variable {X : Cx} {a b : Expr} {ta tb : TE} {pos : Pos}
theorem IxR.or {r r' : R2} (h : IxR X r) (h' : IxR X r') : IxR X (fun x y H Q => r x y H Q ∨ r' x y H Q) := by
  intro value slice pins s σ H x y v u Q I rx ry q hs
  rcases q with q | q
  · exact h value slice pins s σ H x y v u Q I rx ry q hs
  · exact h' value slice pins s σ H x y v u Q I rx ry q hs
theorem MtR.or {id : String} {r r' : V → List V → Hp → VK → Prop} (h : MtR X id r) (h' : MtR X id r') : MtR X id (fun x xs H Q => r x xs H Q ∨ r' x xs H Q) := by
  intro pins s σ H x xs v us Q I rx rs q
  rcases q with q | q
  · exact h pins s σ H x xs v us Q I rx rs q
  · exact h' pins s σ H x xs v us Q I rx rs q
theorem pe_ix {r : R2} (hr : IxR X r) (ha : PE X a ta) (hb : PE X b tb) (hs : PlainIx b) : PE X (.Subscript a b pos) (tOp r ta tb) := by
  intro pins s σ H Q I h
  exact Subscript_ (binT ha hb I h fun v u s2 x y H2 I2 rx ry q => hr a b pins s2 σ H2 x y v u Q I2 rx ry q (hs _ _))

def rIxL (K : PySem.W.Frag) : R2 := fun x y H Q => ∃ p xs i v, x = .ref p ∧ y = .int i ∧ SqL K H p xs ∧ atI xs i = some v ∧ Q v H
def rIxT (K : PySem.W.Frag) : R2 := fun x y H Q => ∃ p xs i v, x = .ref p ∧ y = .int i ∧ SqT K H p xs ∧ atI xs i = some v ∧ Q v H
def rIxS : R2 := fun x y H Q => ∃ z i c, x = .str z ∧ y = .int i ∧ z.length ≤ sizeLine ∧ atI z.cps.toList i = some c ∧ Q (.str ⟨#[c]⟩) H
theorem ix_list : IxR X (rIxL X.K) := by
  intro value slice pins s σ H x y v u Q I rx ry h hs
  obtain ⟨p, xs, i, z, rfl, rfl, hq, he, q⟩ := h
  cases rx
  obtain ⟨t, rfl⟩ := ry
  obtain ⟨its, r, pl, hz⟩ := I.list hq
  obtain ⟨j, h1, h2, h3, h4, h5⟩ := atI_get he
  obtain ⟨w, ew, rw'⟩ := r.get h2
  have hl := r.length
  have hn := line63
  have fin : EP X pins σ Q w s := ⟨z, H, I, rw', q⟩
  by_cases h0 : 0 ≤ i
  · have hj : i.toNat = j := by
      rw [seqIndex_of h0 h5] at h1
      exact Option.some.inj h1
    exact item_listR pl.isList h0 (by omega) (by rw [hj]; simpa using ew) fin hs
  · have hj : (i + (its.toArray.size : Int)).toNat = j := by
      rw [seqIndex_neg (by omega) h4] at h1
      rw [List.size_toArray, ← hl]
      exact Option.some.inj h1
    exact subscriptTail_builtinR (x := w) pl.isList.typeIs slot_list_getitem.lookup
      (wpAny_getItem_list_neg (Q := fun r s' => r = w ∧ EP X pins σ Q r s') pl.isList (by omega) (by rw [List.size_toArray] <;> omega) (by omega) (by rw [hj]; simpa using ew) ⟨rfl, fin⟩) hs
theorem ix_tup : IxR X (rIxT X.K) := by
  intro value slice pins s σ H x y v u Q I rx ry h hs
  obtain ⟨p, xs, i, z, rfl, rfl, hq, he, q⟩ := h
  cases rx
  obtain ⟨t, rfl⟩ := ry
  obtain ⟨its, r, pl, hz⟩ := I.tuple hq
  obtain ⟨j, h1, h2, h3, h4, h5⟩ := atI_get he
  obtain ⟨w, ew, rw'⟩ := r.get h2
  have hl := r.length
  have hn := line63
  have fin : EP X pins σ Q w s := ⟨z, H, I, rw', q⟩
  exact subscriptTail_builtinR (x := w) pl.typeIs slot_tuple_getitem.lookup
    (getItem_tuple (j := j) (Q := fun r s' => r = w ∧ EP X pins σ Q r s') pl (by omega) (by omega) (by rw [List.size_toArray, ← hl]; exact h1) (by simpa using ew) ⟨rfl, fin⟩) hs
theorem ix_str : IxR X rIxS := by
  intro value slice pins s σ H x y v u Q I rx ry h hs
  obtain ⟨z, i, c, rfl, rfl, hz, he, q⟩ := h
  obtain ⟨t, rfl⟩ := rx
  obtain ⟨t', rfl⟩ := ry
  obtain ⟨j, h1, h2, h3, h4, h5⟩ := atI_get he
  have hl : z.cps.toList.length = z.length := by simp [Str.length]
  rw [hl] at h1 h4 h5
  have hn := line63
  exact tail_any (typeIs_str s z t) slot_str_getitem.lookup (getItem_str (c := c) (by
    have e1 : decide (i < -(2 ^ 63 : Int)) = false := decide_eq_false (by omega)
    have e2 : decide (i ≥ 2 ^ 63) = false := decide_eq_false (by omega)
    rw [e1, e2, Bool.or_false]) (by rw [h1]; simpa using h2) ⟨.str ⟨#[c]⟩, H, I.tok _, ⟨_, rfl⟩, q⟩) hs
def rIx (K : PySem.W.Frag) : R2 := fun x y H Q => rIxL K x y H Q ∨ rIxT K x y H Q ∨ rIxS x y H Q
theorem ix_seq : IxR X (rIx X.K) := ix_list.or (ix_tup.or ix_str)

theorem mapSeq_set (its : List Value) (n j : Nat) (u : Value) : Obj.mapSeq (·.setIfInBounds j u) { cls := .type "list", data := .seq its.toArray n } = { cls := .type "list", data := .seq (its.set j u).toArray n } := by
  simp [Obj.mapSeq]
theorem Inv.lst {pins : List (Addr × Obj)} {σ : St} {H : Hp} {s : Shared} {p : Addr} {xs : List V} (I : Inv X pins σ H s) (h : H p = some (.lst xs)) :
    ∃ (its : List Value) (n : Nat), Vals xs its ∧ s.heap.get? p = some { cls := .type "list", data := .seq its.toArray n } ∧ xs.length ≤ sizeLine := by
  obtain ⟨z, its, n, r, e⟩ := I.hok p _ h
  exact ⟨its, n, r, e, z⟩
theorem Inv.lstUpd {pins : List (Addr × Obj)} {σ : St} {H : Hp} {s : Shared} {p : Addr} {xs ys : List V} {its its' : List Value} {n n' : Nat} {f : Obj → Obj} (I : Inv X pins σ H s) (h : H p = some (.lst xs))
    (ho : s.heap.get? p = some { cls := .type "list", data := .seq its.toArray n }) (hf : f { cls := .type "list", data := .seq its.toArray n } = { cls := .type "list", data := .seq its'.toArray n' }) (r : Vals ys its') (hz : ys.length ≤ sizeLine) (t : Nat) :
    Inv X pins σ (upd H p (.lst ys)) { s with heap := s.heap.update p f, toks := t } := by
  have e : (s.heap.update p f).get? p = some { cls := .type "list", data := .seq its'.toArray n' } := by
    rw [Heap.get?_update_self f ho (by rw [hf] <;> rfl), hf]
  refine I.write (x := p) (e := p) (by rw [h]; trivial) (.inl rfl) (fun b u hb q => (Heap.get?_update_other _ _ (Ne.symm hb)).trans q) ⟨_, e⟩ ?_
  exact ⟨hz, its', n', r, e⟩
def rSetL : V → V → V → Hp → (Hp → Prop) → Prop := fun o i v H Q => ∃ p xs k j, o = .ref p ∧ i = .int k ∧ H p = some (.lst xs) ∧ ixN xs.length k = some j ∧ Q (upd H p (.lst (xs.set j v)))
theorem set_list : PSet X rSetL := by
  intro pins s σ H o i v ov iv u Q I ro ri rv h
  obtain ⟨p, xs, k, j, rfl, rfl, hp, hj, q⟩ := h
  cases ro
  obtain ⟨t, rfl⟩ := ri
  obtain ⟨its, n, r, ho, hz⟩ := I.lst hp
  obtain ⟨h1, h2, h3, h4⟩ := ixN_seq hj
  have hl := r.length
  have hn := line63
  have I' : Inv X pins σ (upd H p (.lst (xs.set j v))) { s with heap := s.heap.update p (Obj.mapSeq (·.setIfInBounds j u)) } :=
    I.lstUpd hp ho (mapSeq_set its n j u) (r.set rv j) (by rw [List.length_set]; exact hz) s.toks
  by_cases h0 : 0 ≤ k
  · have hk : k.toNat = j := by
      rw [seqIndex_of h0 h4] at h1
      exact Option.some.inj h1
    exact PySem.W.ki_setAt ho h0 (by omega) (by rw [List.size_toArray, ← hl]; exact h4) (by rw [hk]; exact ⟨_, I', q⟩)
  · have hk : (k + (its.toArray.size : Int)).toNat = j := by
      rw [seqIndex_neg (by omega) h3] at h1
      rw [List.size_toArray, ← hl]
      exact Option.some.inj h1
    exact PySem.W.ki_setBack ho (by omega) (by rw [List.size_toArray, ← hl]; exact h3) (by omega) (by rw [hk]; exact ⟨_, I', q⟩)

theorem slice_bounds (lo hi : Option Int) (n : Nat) : (sliceBounds lo hi none n).1 = ((HT.sIx n 0 lo : Nat) : Int) ∧ (sliceBounds lo hi none n).2.1 = ((HT.sIx n n hi : Nat) : Int) ∧ (sliceBounds lo hi none n).2.2 = 1 := by
  refine ⟨?_, ?_, rfl⟩
  · cases lo with
    | none => simp [sliceBounds, HT.sIx]
    | some i =>
      simp only [sliceBounds, HT.sIx, Option.getD_none, show (1 : Int) > 0 by decide, if_true]
      by_cases h : i < 0
      · simp only [h, if_true] <;> omega
      · simp only [h, if_false] <;> omega
  · cases hi with
    | none => simp [sliceBounds, HT.sIx]
    | some i =>
      simp only [sliceBounds, HT.sIx, Option.getD_none, show (1 : Int) > 0 by decide, if_true]
      by_cases h : i < 0
      · simp only [h, if_true] <;> omega
      · simp only [h, if_false] <;> omega
theorem slicePick_cut (its : List Value) (lo hi : Option Int) : slicePick its.toArray lo hi none = ((its.drop (HT.sIx its.length 0 lo)).take (HT.sIx its.length its.length hi - HT.sIx its.length 0 lo)).toArray := by
  obtain ⟨h1, h2, h3⟩ := slice_bounds lo hi its.toArray.size
  unfold slicePick
  rw [h1, h2, h3]
  simp only [sliceRange_one, pick_run, List.size_toArray] <;> rfl
def rSlL (K : PySem.W.Frag) : V → Option Int → Option Int → Hp → VK → Prop := fun x lo hi H Q => ∃ a xs, x = .ref a ∧ SqL K H a xs ∧ ∀ p, H p = none → Q (.ref p) (upd H p (.lst (cutV xs lo hi)))
theorem sl_list : SlR X (rSlL X.K) := by
  intro pins s σ H x v vl vu lo hi sl Q I rx hs pl pu h
  obtain ⟨a, xs, rfl, hx, q⟩ := h
  cases rx
  obtain ⟨its, r, ht, hz⟩ := I.list hx
  have hlen := r.length
  refine ⟨"list", _, slot_list_getitem.lookup, ht.isList.typeIs, ?_⟩
  refine wpAny_getItem_list_slice ht.isList hs pl pu .none (by simp) ?_ (by rw [List.size_toArray] <;> omega)
  rw [slicePick_cut, ← hlen]
  refine ⟨.ref s.heap.objs.size, _, I.laid (t' := s.toks) (o := .lst (cutV xs lo hi)) (fun b ob q => Heap.get?_push_of_some _ q) (Nat.le_refl _) ?_, rfl, q _ (I.hok.fresh (Nat.le_refl _))⟩
  exact ⟨Nat.le_trans (cutV_length xs lo hi) hz, _, 0, (r.drop (HT.sIx xs.length 0 lo)).take (HT.sIx xs.length xs.length hi - HT.sIx xs.length 0 lo), Heap.get?_push_size _ rfl⟩

theorem call_len_seq : CallR X (.builtin "len") (fun xs H Q => ∃ p ys, xs = [.ref p] ∧ (SqL X.K H p ys ∨ SqT X.K H p ys) ∧ Q (.int ys.length) H) := by
  intro pins s σ H xs us Q I r h
  obtain ⟨p, ys, rfl, hq, q⟩ := h
  obtain ⟨u, rfl, rx⟩ := vals1 r
  cases rx
  have hn := line63
  rcases hq with hq | hq
  · obtain ⟨its, r', pl, hz⟩ := I.list hq
    have hlen := r'.length
    exact Calls.call_len_list pl.isList (by simp only [List.size_toArray] <;> omega) ⟨.int ys.length, H, I.tok _, ⟨s.toks + 1, by rw [List.size_toArray, hlen]⟩, q⟩
  · obtain ⟨its, r', pl, hz⟩ := I.tuple hq
    have hlen := r'.length
    exact len_tuple pl (by simp only [List.size_toArray] <;> omega) ⟨.int ys.length, H, I.tok _, ⟨s.toks + 1, by rw [List.size_toArray, hlen]⟩, q⟩
theorem CallR.or {f : Value} {r r' : List V → Hp → VK → Prop} (h : CallR X f r) (h' : CallR X f r') : CallR X f (fun xs H Q => r xs H Q ∨ r' xs H Q) := by
  intro pins s σ H xs us Q I rs q
  rcases q with q | q
  · exact h pins s σ H xs us Q I rs q
  · exact h' pins s σ H xs us Q I rs q
theorem call_list_of : CallR X (.type "list") (fun xs H Q => ∃ p ys, xs = [.ref p] ∧ (SqL X.K H p ys ∨ SqT X.K H p ys) ∧ ∀ l, H l = none → Q (.ref l) (upd H l (.lst ys))) := by
  intro pins s σ H xs us Q I r h
  obtain ⟨p, ys, rfl, hq, q⟩ := h
  obtain ⟨u, rfl, rx⟩ := vals1 r
  cases rx
  have fin : ∀ (its : List Value), Vals ys its → ys.length ≤ sizeLine → ∀ (h' : Heap) (c' : Nat), (∀ b o', s.heap.get? b = some o' → h'.get? b = some o') →
      h'.get? s.heap.objs.size = some { cls := .type "list", dict := none, data := .seq its.toArray c', slots := #[] } → EP X pins σ Q (.ref s.heap.objs.size) { s with heap := h' } := fun its r' hz h' c' kp e =>
    ⟨.ref s.heap.objs.size, _, I.laid (t' := s.toks) kp (Nat.le_refl _) (show ObjOk X.prog X.w _ h' _ (.lst ys) from ⟨hz, its, c', r', e⟩), rfl, q _ (I.hok.fresh (Nat.le_refl _))⟩
  rcases hq with hq | hq
  · obtain ⟨its, r', pl, hz⟩ := I.list hq
    have hlen := r'.length
    obtain ⟨o, ho, hc, n, hd⟩ := pl.isList
    exact call_list_seq p (.inl rfl) ho hc hd (fun h' c' kp e => fin its r' hz h' c' kp e) (by simp only [List.size_toArray] <;> omega)
  · obtain ⟨its, r', pl, hz⟩ := I.tuple hq
    have hlen := r'.length
    obtain ⟨o, ho, hc, n, hd⟩ := pl
    exact call_list_seq p (.inr rfl) ho hc hd (fun h' c' kp e => fin its r' hz h' c' kp e) (by simp only [List.size_toArray] <;> omega)
theorem call_tuple_of : CallR X (.type "tuple") (fun xs H Q => ∃ p ys, xs = [.ref p] ∧ ((SqL X.K H p ys ∧ ∀ l, H l = none → Q (.ref l) (upd H l (.tup ys))) ∨ (SqT X.K H p ys ∧ Q (.ref p) H))) := by
  intro pins s σ H xs us Q I r h
  obtain ⟨p, ys, rfl, h⟩ := h
  obtain ⟨u, rfl, rx⟩ := vals1 r
  cases rx
  rcases h with ⟨hq, q⟩ | ⟨hq, q⟩
  · obtain ⟨its, r', pl, hz⟩ := I.list hq
    have hlen := r'.length
    refine call_tuple_list pl.isList (fun h' kp => ?_) (by simp only [List.size_toArray] <;> omega)
    have I1 : Inv X pins σ H { s with heap := h' } := I.kept (t' := s.toks) kp
    have I2 : Inv X pins σ (upd H h'.objs.size (.tup ys)) { s with heap := h'.push { cls := .type "tuple", data := .seq its.toArray } } :=
      I1.laid (t' := s.toks) (fun b o e => Heap.get?_push_of_some _ e) (Nat.le_refl _) (show ObjOk X.prog X.w _ _ _ (.tup ys) from ⟨hz, its, r', IsTup.new _ _⟩)
    exact ⟨.ref h'.objs.size, _, I2, rfl, q _ (I1.hok.fresh (Nat.le_refl _))⟩
  · obtain ⟨its, r', pl, hz⟩ := I.tuple hq
    exact call_tuple_same pl ⟨.ref p, H, I, rfl, q⟩

def tyV (K : PySem.W.Frag) (T : String) (x : V) (H : Hp) : Prop := match x with
  | .str _ => T = "str"
  | .int _ => T = "int"
  | .ref p => (T = "list" ∧ ∃ xs, SqL K H p xs) ∨ (T = "tuple" ∧ ∃ o, K.lookup p = some o ∧ o.cls = .type "tuple" ∧ o.dict = none) ∨
      (T = "dict" ∧ ((∃ kvs, H p = some (.dK kvs)) ∨ ∃ kvs, H p = some (.dT kvs))) ∨ (T = "set" ∧ ∃ S n, H p = some (.set S n))
  | _ => False
theorem tyV_is {pins : List (Addr × Obj)} {σ : St} {H : Hp} {s : Shared} {T : String} {x : V} {v : Value} (I : Inv X pins σ H s) (r : RelV x v) (ty : tyV X.K T x H) :
    s.TypeIs v T ∧ ∀ a, v = .ref a → ∃ ob, s.heap.get? a = some ob ∧ ob.dict = none := by
  cases x with
  | str z =>
    obtain ⟨t, rfl⟩ := r
    cases (show T = "str" from ty)
    exact ⟨typeIs_str s z t, fun _ e => nomatch e⟩
  | int i =>
    obtain ⟨t, rfl⟩ := r
    cases (show T = "int" from ty)
    exact ⟨typeIs_int s i t, fun _ e => nomatch e⟩
  | ref p =>
    cases r
    rcases ty with ⟨rfl, xs, hq⟩ | ⟨rfl, o, hk, hc, hd⟩ | ⟨rfl, hk⟩ | ⟨rfl, S, n, hk⟩
    · obtain ⟨its, _, pl, _⟩ := I.list hq
      refine ⟨pl.isList.typeIs, fun a e => ?_⟩
      cases e
      obtain ⟨o, n, e, c, hd, _⟩ := pl
      exact ⟨o, e, hd⟩
    · refine ⟨⟨o, I.kIn p o hk, hc⟩, fun a e => ?_⟩
      cases e
      exact ⟨o, I.kIn _ o hk, hd⟩
    · have z : ∃ o, s.heap.get? p = some o ∧ o.ExactDict := by
        rcases hk with ⟨kvs, hk⟩ | ⟨kvs, hk⟩
        · obtain ⟨_, _, _, _, o, _, _, e, ex, _⟩ := I.hok p _ hk
          exact ⟨o, e, ex⟩
        · obtain ⟨_, _, _, _, o, _, _, e, ex, _⟩ := I.hok p _ hk
          exact ⟨o, e, ex⟩
      obtain ⟨o, e, ex⟩ := z
      refine ⟨⟨o, e, ex.1⟩, fun a e2 => ?_⟩
      cases e2
      exact ⟨o, e, ex.2.1⟩
    · obtain ⟨o, _, _, _, e, ex, _⟩ := I.hok p _ hk
      refine ⟨⟨o, e, ex.1⟩, fun a e2 => ?_⟩
      cases e2
      exact ⟨o, e, ex.2.1⟩
  | _ => exact False.elim ty
def tBM0 (K : PySem.W.Frag) (T : String) (r : V → List V → Hp → VK → Prop) (to : TE) : TE := fun σ H Q => to σ H fun x H1 => tyV K T x H1 ∧ r x [] H1 Q
def tBM (K : PySem.W.Frag) (T : String) (r : V → List V → Hp → VK → Prop) (to : TE) (t : TA) : TE := fun σ H Q => to σ H fun x H1 => tyV K T x H1 ∧ t σ H1 fun xs H2 => r x xs H2 Q
variable {o e : Expr} {es : List Expr} {to : TE} {t : TA} {name : Str} {apos cpos : Pos} {T id : String} {r : V → List V → Hp → VK → Prop}
theorem pe_bm0 (pa : PlainAttrs T) (slot : Slot T name id) (hty : typeOf (.builtin id) = pure (.type "method_descriptor")) (hm : MtR X id r) (ho : PE X o to)
    (hbase : attributeBase o name X.env (eval o X.env) = eval o X.env := by rfl) (hline : (apos.endLine == cpos.line) = true := by rfl) : PE X (.Call (.Attribute o name apos) [] [] cpos) (tBM0 X.K T r to) := by
  intro pins s σ H Q I h
  refine wpAny_Call_method0_late hbase hline (thn (ho pins s σ H _ I h) fun v s1 ⟨x, H1, I1, r1, ty, q1⟩ => ?_)
  obtain ⟨h1, h2⟩ := tyV_is I1 r1 ty
  exact ⟨T, id, pa, slot, hty, h1, h2, Calls.callWith_builtin rfl (PySem.evalArgs_none (hm pins s1 σ H1 x [] v [] Q I1 r1 .nil q1))⟩
theorem pe_bm (pa : PlainAttrs T) (slot : Slot T name id) (hty : typeOf (.builtin id) = pure (.type "method_descriptor")) (hm : MtR X id r) (ho : PE X o to) (ha : PA X (e :: es) t)
    (hbase : attributeBase o name X.env (eval o X.env) = eval o X.env := by rfl)
    (hfew : ((backTo cpos (starEach (e :: es) X.env)).all (fun x => !x.1) && (backToKw cpos (keywordEach [] X.env)).all (fun x => x.1.isSome)
      && decide ((e :: es).length + ([] : List Keyword).length + (if ([] : List Keyword).isEmpty then 0 else 1) < 30)) = true := by rfl)
    (hline : (apos.endLine == cpos.line) = true := by rfl) (hs : starEach (e :: es) X.env = (false, eval e X.env) :: starEach es X.env := by rfl) (hplain : (backTo cpos (starEach es X.env)).any (·.1) = false := by rfl) :
    PE X (.Call (.Attribute o name apos) (e :: es) [] cpos) (tBM X.K T r to t) := by
  intro pins s σ H Q I h
  refine wpAny_Call_method_late hbase hfew hline rfl (thn (ho pins s σ H _ I h) fun v s1 ⟨x, H1, I1, r1, ty, q1⟩ => ?_)
  obtain ⟨h1, h2⟩ := tyV_is I1 r1 ty
  refine ⟨T, id, pa, slot, hty, h1, h2, ?_⟩
  have hA := ha cpos pins s1 σ H1 _ I1 q1
  rw [hs] at hA ⊢
  refine Calls.callWith_builtin (by show (false || (backTo cpos (starEach es X.env)).any (·.1)) = false; rw [hplain] <;> rfl) (Calls.evalArgs_plain ?_)
  exact thn hA fun us s2 ⟨vs, H2, I2, r2, q2⟩ => hm pins s2 σ H2 x vs v us Q I2 r1 r2 q2
end
end L2
namespace L2
open PySem PySem.Spec PyProof.Rows
def MtM (X : Cx) (id : String) (r : V → List V → Hp → VK → Prop) : Prop :=
  ∀ (pins : List (Addr × Obj)) (s : Shared) (σ : St) (H : Hp) (x : V) (xs : List V) (v : Value) (us : List Value) (Q : VK), Inv X pins σ H s → RelV x v → Vals xs us → r x xs H Q →
    wpAny (model X.prog X.w) X.A (call (.builtin id) (v :: us)) (EP X pins σ Q) X.xe s

theorem Vals.one : ∀ {x : V} {us : List Value}, Vals [x] us → ∃ u, us = [u] ∧ RelV x u
  | _, _, .cons r .nil => ⟨_, rfl, r⟩
theorem Vals.two : ∀ {x y : V} {us : List Value}, Vals [x, y] us → ∃ u v, us = [u, v] ∧ RelV x u ∧ RelV y v
  | _, _, _, .cons r (.cons q .nil) => ⟨_, _, rfl, r, q⟩
theorem Vals.zero : ∀ {us : List Value}, Vals [] us → us = []
  | _, .nil => rfl
section
variable {X : Cx} {pins : List (Addr × Obj)} {σ : St} {H : Hp} {s : Shared} {l b : Addr} {xs ys zs : List V}
theorem Inv.lset {its its' : List Value} {n : Nat} {f : Array Value → Array Value} {t' : Nat} (I : Inv X pins σ H s) (hH : H l = some (.lst xs))
    (e : s.heap.get? l = some { cls := .type "list", data := .seq its.toArray n }) (hf : f its.toArray = its'.toArray) (hv : Vals ys its') (hz : ys.length ≤ sizeLine) :
    Inv X pins σ (upd H l (.lst ys)) { s with heap := s.heap.update l (Obj.mapSeq f), toks := t' } := by
  have q := PySem.IsL.update e f
  rw [hf] at q
  refine I.write (x := l) (e := l) (by rw [hH]; exact trivial) (.inl rfl) (fun b' u hb hu => (Heap.get?_update_other s.heap (Obj.mapSeq f) (Ne.symm hb)).trans hu) ⟨_, q⟩ ?_
  exact ⟨hz, its', _, hv, q⟩
theorem Inv.lnew {its : List Value} {t' : Nat} (I : Inv X pins σ H s) (hv : Vals ys its) (hz : ys.length ≤ sizeLine) :
    Inv X pins σ (upd H s.heap.objs.size (.lst ys)) { s with heap := s.heap.push { cls := .type "list", data := .seq its.toArray }, toks := t' } :=
  I.laid (fun _ _ q => Heap.get?_push_of_some _ q) (Nat.le_refl _) ⟨hz, its, 0, hv, Heap.get?_push_size _ rfl⟩
theorem Inv.fresh (I : Inv X pins σ H s) : H s.heap.objs.size = none := I.hok.fresh (Nat.le_refl _)
theorem Inv.lstM (I : Inv X pins σ H s) (hH : H l = some (.lst xs)) : xs.length ≤ sizeLine ∧ ∃ (its : List Value) (n : Nat), Vals xs its ∧ xs.length = its.length ∧ s.heap.get? l = some { cls := .type "list", data := .seq its.toArray n } := by
  obtain ⟨z, its, n, r, e⟩ := I.hok l _ hH
  exact ⟨z, its, n, r, r.length, e⟩

theorem notLongL {n : Nat} (h : n ≤ sizeLine) : Builtin.List.listTooLong n = false := by
  unfold Builtin.List.listTooLong
  exact decide_eq_false (by omega)
end
section
variable {X : Cx}
def rAppend : V → List V → Hp → VK → Prop := fun x vs H Q => ∃ l xs y, x = .ref l ∧ vs = [y] ∧ H l = some (.lst xs) ∧ xs.length < sizeLine ∧ Q .non (upd H l (.lst (xs ++ [y])))
theorem mt_append : MtM X "list.append" rAppend := by
  intro pins s σ H x vs v us Q I rx rv h
  obtain ⟨l, xs, y, rfl, rfl, hH, hz, q⟩ := h
  cases rx
  obtain ⟨u, rfl, ru⟩ := rv.one
  obtain ⟨z, its, n, r, hl, e⟩ := I.lstM hH
  refine call_meets F.slot_list_append ⟨_, e, rfl⟩ F.entry_list_append (F.args_list_append_2 _ _) (PySem.list_append l its.toArray n u (by rw [List.size_toArray]; omega)) ⟨e, ?_⟩
  refine ⟨.non, _, I.lset (its' := its ++ [u]) hH e (by simp) (r.append (.cons ru .nil)) ?_, rfl, q⟩
  rw [List.length_append, List.length_singleton]
  omega

def rClear : V → List V → Hp → VK → Prop := fun x vs H Q => ∃ l xs, x = .ref l ∧ vs = [] ∧ H l = some (.lst xs) ∧ Q .non (upd H l (.lst []))
theorem mt_clear : MtM X "list.clear" rClear := by
  intro pins s σ H x vs v us Q I rx rv h
  obtain ⟨l, xs, rfl, rfl, hH, q⟩ := h
  cases rx
  have hus := rv.zero
  subst hus
  obtain ⟨z, its, n, r, hl, e⟩ := I.lstM hH
  refine call_meets F.slot_list_clear ⟨_, e, rfl⟩ F.entry_list_clear (F.args_list_clear_1 _) (AutoSeq1.list_clear_list_0 l its.toArray n (by rw [List.size_toArray]; omega)) ⟨e, ?_⟩
  exact ⟨.non, _, I.lset (its' := []) (ys := []) hH e rfl .nil (Nat.zero_le _), rfl, q⟩

def rCat : R2 := fun x y H Q => ∃ l b xs zs, x = .ref l ∧ y = .ref b ∧ H l = some (.lst xs) ∧ H b = some (.lst zs) ∧ xs.length + zs.length ≤ sizeLine ∧ ∀ p, H p = none → Q (.ref p) (upd H p (.lst (xs ++ zs)))
theorem op_cat : OpR X (binaryOp .Add) rCat := by
  intro pins s σ H x y v u Q I rx ry h
  obtain ⟨l, b, xs, zs, rfl, rfl, hH, hB, hz, q⟩ := h
  cases rx
  cases ry
  obtain ⟨z, its, n, r, hl, e⟩ := I.lstM hH
  obtain ⟨z2, its2, n2, r2, hl2, e2⟩ := I.lstM hB
  refine PySem.P.add_list e e2 ?_ (by rw [List.size_toArray, List.size_toArray]; omega)
  have ea : its.toArray ++ its2.toArray = (its ++ its2).toArray := by simp
  rw [ea]
  exact ⟨.ref _, _, I.lnew (t' := s.toks) (r.append r2) (by rw [List.length_append]; omega), rfl, q _ I.fresh⟩
end
section
variable {prog : Program} {w : World} {A : Around} {E : Value → Shared → Prop} {s : Shared}
end
section
variable {X : Cx}
end
end L2
namespace Att
open PySem PySem.W PySem.Calls PyProof.Rows
theorem ints_of_wellAll {P : Params} {h : Heap} : ∀ (ns : List Int) (vs : List Value), WellAll P h vs (ns.map WData.int) → IntsAre vs ns := by
  intro ns
  induction ns with
  | nil =>
    intro vs w
    rw [List.map_nil] at w
    cases w
    exact .nil
  | cons n ns ih =>
    intro vs w
    rw [List.map_cons] at w
    cases w with
    | cons a b =>
      cases a
      exact .cons _ _ (ih _ b)

theorem script_of {l : OpenLaw} {n : Nat} (hn : l.most = some n) {P : Params} {h : Heap} {args : List WData} {vals : List Value}
    (hpre : l.row.toRowW.claim.pre args = true) (hwl : WellAll P h vals args) :
    ∃ a vs ns, vals = [Value.ref a] ∧ args = [WData.list (ns.map WData.int)] ∧ h.get? a = some { cls := .type "list", data := .seq vs.toArray } ∧ IntsAre vs ns ∧ ns.length ≤ n := by
  have hsh : WShape.hasAll [] args [.list .int] = true := (pre_splitW hpre).1
  have hc : l.pre.holds [] { args := args } = true := (pre_splitW hpre).2
  obtain ⟨d, r, rfl, h1, h2⟩ := hasAllW_cons hsh
  obtain rfl := hasAllW_nil h2
  obtain ⟨xs, rfl, h3⟩ := hasW_list h1
  obtain ⟨ns, rfl⟩ := items_int h3
  have hlen : ns.length ≤ n := by
    unfold OpenLaw.pre at hc
    have h4 : (WTm.not (.lt (.lit (.int (n : Int))) (.len (.arg 0)))).holds [] { args := [.list (ns.map .int)] } = true := by
      have h4 := (holds_andW hc).1
      rw [hn] at h4
      exact h4
    have h5 := condW_of h4 (w_not (w_lt w_lit (w_len_list (w_arg rfl))))
    rw [List.length_map] at h5
    refine Nat.le_of_not_lt fun q => ?_
    have q' : (n : Int) < ((ns.length : Nat) : Int) := by omega
    first
      | (rw [decide_eq_true q'] at h5; exact absurd h5 (by decide))
      | (simp at h5; omega)
  cases hwl with
  | cons w1 w2 =>
    cases w2
    cases w1 with
    | list ho hall => exact ⟨_, _, ns, rfl, rfl, ho, ints_of_wellAll ns _ hall, hlen⟩

theorem post_true (l : OpenLaw) (args : List WData) : l.row.toRowW.claim.post args (.bool true) args = true :=
  postW_of (r := l.row.toRowW) (X := (true == true))
    (show WShape.has [] (.bool true) .bool = true by first | rfl | decide | simp [WShape.has, WShape.arms, WShape.armsAll])
    (show (WTm.eq .res (.lit (.bool true))).value [] { args := args, res := some (.bool true), after := args } = some (.bool (true == true)) from w_eq_bool (w_res rfl) w_lit) rfl

theorem attach_call {l : OpenLaw} {n : Nat} {q : Program} {loose : List Str} {XP : (Str → Option Value) → Heap → Prop} {YP : World → Heap → Prop} {d : DefRec}
    (hn : l.most = some n) (hdf : d.params.defaults = [])
    (call : ∀ (w : World) (s₀ s₁ : Shared) (mg mb : Str → Option Value) (fa : Addr) (o : Obj) (pm cd doc : Value) (a : Addr) (vs : List Value) (ns : List Int),
      Ground q loose [] XP w s₀ mg mb s₁.heap → YP w s₁.heap →
      s₁.heap.get? fa = some o → o.data = .func (docDef d.name d.params d.body d.scope pm cd doc) → s₁.heap.CodeRec cd d.name → mg d.name = some (.ref fa) →
      s₁.heap.get? a = some { cls := .type "list", data := .seq vs.toArray } → IntsAre vs ns → ns.length ≤ n → s₁.gens = #[] →
      codeAny (model l.prog w) callerA (.call (.ref fa) ⟨[.ref a], []⟩) (fun r s' => r = .ok (.ret (.bool true)) ∧ OldK s₁.heap s'.heap ∧ s'.os = s₁.os ∧ AllBare s'.gens) s₁) :
    WalkO q loose XP YP l.row.toRowW d [] (fun f vs => PySem.call f vs) := by
  intro w s₀ s₁ mg mb G Y fa o pm cd doc dV kV ho hd hcd hD hmg hg args vals as hpre hlay hrd hwl hlo
  obtain rfl : dV = .none := Dflts.none hD hdf
  obtain rfl : kV = .none := Dflts.noKw hD
  obtain ⟨a, vs, ns, rfl, rfl, hobj, hints, hlen⟩ := script_of hn hpre hwl
  refine enter_call (codeAny_mono (call w s₀ s₁ mg mb fa o pm cd doc a vs ns G Y ho (fd_plain hd) hcd hmg hobj hints hlen hg) fun r s' hq => ?_)
  obtain ⟨rfl, h2, h3, h4⟩ := hq
  exact ⟨.inl ⟨.bool true, .bool true, [], rfl, fun _ => rfl, .bool true, post_true l _, fun _ => ⟨List.Pairwise.nil, fun _ hm => (nomatch hm)⟩⟩, h2, h3, h4⟩

section
variable {prog : Program} {w : World} {A : Around} {E : Value → Shared → Prop} {s : Shared} {K : Frag}
end
end Att
namespace L2
open PySem PySem.Spec PyProof.Rows
theorem vals_ints : ∀ {vs : List Value} {ns : List Int}, IntsAre vs ns → Vals (ns.map V.int) vs
  | _, _, .nil => .nil
  | _, _, .cons n t h => .cons ⟨t, rfl⟩ (vals_ints h)

def Only (H : Hp) : Prop := ∀ b, H b = none ∨ ∃ o xs, H b = some (.frz o (.lst xs))

theorem law_call {P : Program} {w : World} {K : PySem.W.Frag} {mg mb : Str → Option Value} {CX : CXT} {k : Nat} {fa a : Addr} {fd : FuncData} {x : Str} {sp : Sp} {s₁ : Shared} {vs : List Value} {ns : List Int}
    (KX : K.In s₁.heap) (hns : s₁.heap.Ns mainGlobals mg) (hb : s₁.heap.Ns builtinsNs mb) (hbb : ∀ x : Str, x ≠ "__name__" → mb x = bootBuiltins x) (hlim : s₁.heap.NoLimit) (hg : s₁.gens = #[])
    (ha : s₁.heap.get? a = some { cls := .type "list", data := .seq vs.toArray }) (hi : IntsAre vs ns) (hl : ns.length ≤ sizeLine) (hr : Room k callerA)
    (F : ∀ base : Heap, K.In base → base.Ns mainGlobals mg → FnOk P w K mg base CX k fa fd [x] sp) (hbind : ∀ (s : Shared) (u : Value), BindsTo s fd ⟨[u], []⟩ [(x, u)])
    (hsp : ∀ H : Hp, Only H → SqL K H a (ns.map V.int) → sp [.ref a] H (fun v _ => v = .bl true) fun _ _ _ => False)
    (hCX : ∀ H e s', CX [] H s₁ (fun _ _ _ => False) e s' → False) :
    codeAny (model P w) callerA (.call (.ref fa) ⟨[.ref a], []⟩) (fun r s' => r = .ok (.ret (.bool true)) ∧ OldK s₁.heap s'.heap ∧ s'.os = s₁.os ∧ AllBare s'.gens) s₁ := by
  have rv := vals_ints hi
  have lenV := hi.length
  have core : ∀ H : Hp, Only H → SqL K H a (ns.map V.int) → HOk P w H s₁.heap → (∀ b, H b ≠ none → b = a) → (H a ≠ none → K.lookup a = none) →
      codeAny (model P w) callerA (.call (.ref fa) ⟨[.ref a], []⟩) (fun r s' => r = .ok (.ret (.bool true)) ∧ OldK s₁.heap s'.heap ∧ s'.os = s₁.os ∧ AllBare s'.gens) s₁ := by
    intro H hO hS hok hA hK
    have base_of : ∀ {b : Addr} {o : Obj}, s₁.heap.get? b = some o → H b = none → (hidT s₁.heap H).get? b = some o := fun e n => hidT_get e n
    have noA : ∀ {b : Addr} {o : Obj} {es : Array DictEntry} {ep : Nat}, s₁.heap.get? b = some o → o.data = .dict es ep → H b = none := fun {b o es ep} e d => by
      cases q : H b with
      | none => rfl
      | some u =>
        have e' : b = a := hA b (by rw [q]; simp)
        subst e'
        rw [ha] at e; cases e
        have d' : Data.seq vs.toArray _ = Data.dict es ep := d
        cases d'
    have nsK : ∀ {b : Addr} {m : Str → Option Value}, s₁.heap.Ns b m → (hidT s₁.heap H).Ns b m := fun {b m} ⟨o, es, ep, e, d, r⟩ => ⟨o, es, ep, base_of e (noA e d), d, r⟩
    have hKb : K.In (hidT s₁.heap H) := fun b o e => base_of (KX b o e) (by
      cases q : H b with
      | none => rfl
      | some u =>
        have e' : b = a := hA b (by rw [q]; simp)
        subst e'
        rw [hK (by rw [q]; simp)] at e; cases e)
    have hM : Mod K mg (hidT s₁.heap H) := ⟨hKb, nsK hns, ⟨mb, nsK hb, hbb⟩, let ⟨mc, h1, h2⟩ := hlim; ⟨mc, nsK h1, h2⟩⟩
    have e0 : Env0 P w K mg (hidT s₁.heap H) callerA [] s₁ H := ⟨rfl, hM, fun b o e => of_hidT e, Nat.le_of_eq (hidT_size _ _), trivial, fun b hb => absurd (show b ∈ ([] : List Addr) from hb) (by simp), hok, .of_eq hg⟩
    refine codeAny_mono ((F _ hKb (nsK hns)).run callerA [] s₁ H ⟨[.ref a], []⟩ [.ref a] [.ref a] _ _ hr e0 (hbind s₁ (.ref a)) (.cons rfl .nil) (hsp H hO hS)) fun r s' h => ?_
    cases r with
    | error e => exact (hCX H e s' h).elim
    | ok fl =>
      cases fl with
      | next => exact False.elim h
      | brk => exact False.elim h
      | cont => exact False.elim h
      | ret u =>
        obtain ⟨v, H', os, bare, un, hok', r', q⟩ := h
        have q' : v = .bl true := q
        subst q'
        obtain rfl : u = Value.bool true := r'
        refine ⟨rfl, OldK.of_keep fun b o e => ?_, os, bare⟩
        cases q : H b with
        | none => exact un.keep b o e q (by intro z; exact absurd (show b ∈ ([] : List Addr) from z) (by simp)) (by simp)
        | some u =>
          rcases hO b with z | ⟨ob, xs, z⟩
          · rw [q] at z; cases z
          · have z2 := un.frzs b ob _ z
            obtain ⟨e1, _⟩ := hok b _ z
            obtain ⟨e2, _⟩ := hok' b _ z2
            rw [e] at e1; cases e1
            exact e2
  cases hk : K.lookup a with
  | some o =>
    have e := KX a o hk
    rw [ha] at e
    cases e
    refine core (fun _ => none) (fun _ => .inl rfl) (.inr ⟨_, vs.toArray, _, hk, rfl, rfl, rfl, by rw [List.size_toArray, lenV]; exact hl, by simpa using rv⟩) (fun b u z => by have z' : (none : Option HO) = some u := z; cases z') (fun b z => absurd rfl z) fun z => absurd rfl z
  | none =>
    refine core (fun b => if b = a then some (.frz { cls := .type "list", data := .seq vs.toArray } (.lst (ns.map V.int))) else none) (fun b => ?_) (.inl (.inr ⟨{ cls := .type "list", data := .seq vs.toArray }, if_pos rfl⟩)) (fun b u z => ?_) (fun b z => ?_) fun _ => hk
    · by_cases hb : b = a
      · exact .inr ⟨_, _, if_pos hb⟩
      · exact .inl (if_neg hb)
    · by_cases hb : b = a
      · have z' := (if_pos hb).symm.trans z
        cases z'
        subst hb
        exact ⟨ha, by rw [List.length_map]; exact hl, vs, _, rv, ha⟩
      · have z' := (if_neg hb).symm.trans z
        cases z'
    · by_cases hb : b = a
      · exact hb
      · exact absurd (if_neg hb) z
end L2
namespace L2
open PySem PySem.Spec PyProof.Rows
theorem walk_of {l : PySem.W.OpenLaw} {n k : Nat} {q : Program} {loose : List Str} {XP : (Str → Option Value) → Heap → Prop} {YP : World → Heap → Prop} {d : DefRec} {K : Params → PySem.W.Frag} {CX : World → CXT} {sp : World → Sp} {x : Str}
    (hn : l.most = some n) (hn2 : n ≤ sizeLine) (hdf : d.params.defaults = []) (hr : Room k callerA)
    (hY : ∀ (w : World) (h : Heap), YP w h → (K w.params).In h)
    (F : ∀ (w : World) (mg : Str → Option Value) (fa : Addr) (h : Heap), (K w.params).In h → h.Ns mainGlobals mg → mg d.name = some (.ref fa) →
      ∃ fd : FuncData, (∀ (s : Shared) (u : Value), BindsTo s fd ⟨[u], []⟩ [(x, u)]) ∧
        ∀ base : Heap, (K w.params).In base → base.Ns mainGlobals mg → FnOk l.prog w (K w.params) mg base (CX w) k fa fd [x] (sp w))
    (hsp : ∀ (w : World) (H : Hp) (a : Addr) (ns : List Int), ns.length ≤ n → Only H → SqL (K w.params) H a (ns.map V.int) → sp w [.ref a] H (fun v _ => v = .bl true) fun _ _ _ => False)
    (hCX : ∀ (w : World) (H : Hp) (s : Shared) (e : Value) (s' : Shared), CX w [] H s (fun _ _ _ => False) e s' → False) :
    PySem.W.WalkO q loose XP YP l.row.toRowW d [] (fun f vs => PySem.call f vs) := by
  refine Att.attach_call hn hdf fun w s₀ s₁ mg mb fa o pm cd doc a vs ns G Y ho hd hcd hmg hobj hints hlen hg => ?_
  have KX := hY w _ Y
  obtain ⟨fd, hb, hF⟩ := F w mg fa _ KX G.T.g hmg
  exact law_call KX G.T.g G.T.b G.T.builtins G.T.nolimit hg hobj hints (Nat.le_trans hlen hn2) hr hF hb (fun H hO hS => hsp w H a ns hlen hO hS) fun H e s' => hCX w H s₁ e s'
end L2
namespace L2
open PySem PySem.Spec PyProof.Rows
def defArgs (s : Stmt) : Arguments := match s with
  | .FunctionDef _ a _ _ _ _ _ _ _ _ => a
  | _ => { posonlyargs := [], args := [], vararg := none, kwonlyargs := [], kw_defaults := [], kwarg := none, defaults := [] }
def defBody (s : Stmt) : List Stmt := match s with
  | .FunctionDef _ _ b _ _ _ _ _ _ _ => b
  | _ => []
def defScope (s : Stmt) : Scope := match s with
  | .FunctionDef _ _ _ _ _ _ sc _ _ _ => sc
  | _ => { kind := .function, names := [], isGenerator := false, isCoroutine := false }

abbrev CX0 : CXT := fun _ _ _ _ _ _ => False
abbrev E0 : XK := fun _ _ _ => False
theorem pass0 {X : Cx} : Passes CX0 X E0 := fun _ _ _ _ _ _ _ h => h.elim

structure Fun (K : PySem.W.Frag) (x qual : Str) (st : Stmt) (f : Addr) (fd : FuncData) : Prop where
  ex : ∃ (oc : Value) (od : Option Addr) (kV doc pm : Value) (an : Option Addr) (cdv ct : Value) (osl : Array (Option Value)),
    fd = PySem.W.fnOf x qual (defArgs st) (defBody st) (defScope st) .none kV doc pm an cdv ct ∧ K.lookup f = some ⟨oc, od, .func fd, osl⟩ ∧ PySem.W.codeIn K cdv qual = true
  kp : PySem.W.keepIn K (.ref f) = true
section
variable {P : Program} {w : World} {K : PySem.W.Frag} {mg : Str → Option Value} {base : Heap}
theorem Fun.ok {x qual : Str} {st : Stmt} {f : Addr} {fd : FuncData} {N ps : List Str} {k : Nat} {sp : Sp} (F : Fun K x qual st f fd) (S : FnScope N ps (defScope st)) (len : ∀ vs H Q E, sp vs H Q E → vs.length = ps.length)
    (hbody : ∀ (cdv : Value) (A : Around) (outer : List Env) (s : Shared) (H : Hp) (vs : List V) (Q : VK) (E : XK), Room k (A.deeper (envOfC qual (defScope st) s.heap.objs.size f cdv)) → sp vs H Q E →
      ∃ t, PSs (cxOf CX0 P w K mg base N qual (defScope st) f cdv A outer s H E).nox (defBody st) t ∧ t { nx := fun _ H' => Q .non H', rt := Q } (start N vs) H) : FnOk P w K mg base CX0 (k + 1) f fd ps sp := by
  obtain ⟨oc, od, kV, doc, pm, an, cdv, ct, osl, rfl, lk, hcd⟩ := F.ex
  refine fn_of lk hcd S len fun A outer s H vs Q E hr hsp => ?_
  obtain ⟨t, h, q⟩ := hbody cdv A outer s H vs Q E hr hsp
  exact ⟨t, h.nox, q⟩
theorem Fun.binds {x qual : Str} {st : Stmt} {f : Addr} {fd : FuncData} {ps : List Str} (F : Fun K x qual st f fd)
    (h : ∀ (kV doc pm : Value) (an : Option Addr) (cdv ct : Value) (us : List Value), us.length = ps.length → bindArgs (PySem.W.fnOf x qual (defArgs st) (defBody st) (defScope st) .none kV doc pm an cdv ct) ⟨us, []⟩ = pure (ps.zip us)) : Binds K fd ps [] := by
  obtain ⟨oc, od, kV, doc, pm, an, cdv, ct, osl, rfl, lk, hcd⟩ := F.ex
  exact .all (h kV doc pm an cdv ct)
theorem fun_mk {x qual : Str} {st : Stmt} {f : Addr} {oc : Value} {od an : Option Addr} {osl : Array (Option Value)} {kV doc pm cdv ct : Value} (l : K.lookup f = some ⟨oc, od, .func (PySem.W.fnOf x qual (defArgs st) (defBody st) (defScope st) .none kV doc pm an cdv ct), osl⟩)
    (c : PySem.W.codeIn K cdv qual = true) (k : PySem.W.keepIn K (.ref f) = true) : Fun K x qual st f (PySem.W.fnOf x qual (defArgs st) (defBody st) (defScope st) .none kV doc pm an cdv ct) := ⟨⟨oc, od, kV, doc, pm, an, cdv, ct, osl, rfl, l, c⟩, k⟩
end
theorem hu_of {A : Around} {k : Nat} (hr : Room k A) : A.units + 1 < cLine := Nat.lt_of_le_of_lt (Nat.add_le_add_left (by decide : 1 ≤ 64) _) hr.units
section
variable {X : Cx}
theorem pv (i : Nat) {x : Str} {pos : Pos} (hN : X.N[i]? = some x := by rfl) (hv : Vis X.env.scope x := by first | exact Or.inl rfl | exact Or.inr (Or.inl rfl) | exact Or.inr (Or.inr rfl)) (hd : (x == ("__debug__" : Str)) = false := by decide)
    (hcd : (x == ("__classdict__" : Str)) = false := by decide) : PE X (.Name x pos) (tVar i) := pe_var hN hv hd hcd
end
theorem iteF {A B : Prop} (h : B) : if false = true then A else B := by
  rw [if_neg Bool.false_ne_true]
  exact h
theorem iteT {A B : Prop} (h : A) : if true = true then A else B := by
  rw [if_pos rfl]
  exact h
theorem ite2 {c A B : Prop} [Decidable c] (h1 : c → A) (h2 : ¬ c → B) : if c then A else B := by
  by_cases h : c
  · rw [if_pos h]
    exact h1 h
  · rw [if_neg h]
    exact h2 h
def Same (H H' : Hp) : Prop := ∀ b o, H b = some o → H' b = some o
theorem Same.refl (H : Hp) : Same H H := fun _ _ h => h
theorem Same.trans {H H1 H2 : Hp} (a : Same H H1) (b : Same H1 H2) : Same H H2 := fun c o h => b c o (a c o h)
theorem Same.free {H H' : Hp} (e : Same H H') {l : Addr} (h : H' l = Option.none) : H l = Option.none := by
  cases q : H l with
  | none => rfl
  | some o =>
    rw [e l o q] at h
    cases h
theorem Same.seq {K : PySem.W.Frag} {H H' : Hp} {a : Addr} {xs : List V} (e : Same H H') (h : SqL K H a xs) : SqL K H' a xs := by
  rcases h with (h | ⟨o, h⟩) | h
  · exact .inl (.inl (e _ _ h))
  · exact .inl (.inr ⟨o, e _ _ h⟩)
  · exact .inr h

end L2
set_option Elab.async false
set_option linter.all false
set_option maxRecDepth 100000
namespace L2
open PySem
section
variable {M : Model} {prog : Program} {w : World} {A : Around} {E : Value → Shared → Prop} {h : Heap} {g : Array GenState} {d : Drawn} {t : Nat} {os : OsState}
variable {nm q : Str} {C N : Addr} {bs bm bmB : List Value} {hdct : Bool} {sn : List Str} {sub : List Value} {ab : Bool} {col : Option Bool} {dd : Option Addr} {k0 k1 k2 k3 k5 : Option Value} {B newId initId : String}
structure Line (B : String) (bm : List Value) : Prop where
  own : bm.contains (.type B) = true
  top : bm.contains (.type "BaseException") = true
  attr : bm.contains (.type "AttributeError") = false
  name : bm.contains (.type "NameError") = false
theorem Line.cons {C : Addr} (l : Line B bm) : Line B (.ref C :: bm) :=
  ⟨by rw [List.contains_cons, l.own, Bool.or_true], by rw [List.contains_cons, l.top, Bool.or_true], by rw [List.contains_cons, l.attr]; rfl, by rw [List.contains_cons, l.name]; rfl⟩

end
end L2
set_option Elab.async false
set_option linter.all false
set_option maxRecDepth 100000
set_option maxHeartbeats 1000000
namespace L2
section
open PySem
variable {prog : Program} {w : World} {A : Around} {E : Value → Shared → Prop} {h : Heap} {g : Array GenState} {d : Drawn} {t : Nat} {os : OsState}
variable {nm q : Str} {C N : Addr} {bs bm bmB : List Value} {hdct : Bool} {sn : List Str} {sub : List Value} {ab : Bool} {col : Option Bool} {dd : Option Addr} {k0 k1 k2 k3 k5 : Option Value} {B newId nid initId : String}
end
open PySem PySem.Spec PyProof.Rows
section
variable {X : Cx} {CX : CXT} {k : Nat} {f C : Addr} {fd : FuncData} {ps : List Str} {sp : Sp} {E : XK} {x : Str} {p pos apos : Pos} {e : Expr} {es : List Expr} {t : TA}
end
end L2
set_option Elab.async false
set_option linter.all false
set_option maxRecDepth 100000
set_option maxHeartbeats 1000000
namespace L2
open PySem PySem.Spec PyProof.Rows
section
variable {X : Cx} {C fI : Addr} {E : XK} {pos : Pos} {ce : Expr} {te : TE}
end
end L2
set_option Elab.async false
set_option linter.all false
set_option maxRecDepth 100000
set_option maxHeartbeats 1000000
namespace L2
section
open PySem PySem.W Builtin Builtin.ObjectAttr Builtin.Getset_descriptor
variable {prog : Program} {w : World} {A : Around} {E : Value → Shared → Prop} {h : Heap} {g : Array GenState} {d : Drawn} {t : Nat} {os : OsState} {a C : Addr} {o : Obj} {K : Frag}
structure XIs (K : Frag) (C : Addr) : Prop where
  cls : (clsIn K C).isSome = true
  ga : findIn K (.ref C) "__getattribute__" = some (some (.builtin "BaseException.__getattribute__"))
  hook : findIn K (.ref C) "__getattr__" = some none
  cl : findIn K (.ref C) "__class__" = some (some (.builtin "object.__class__"))
  mo : mroIn K C (.type "object") = some true
  mb : mroIn K C (.type "BaseException") = some true
theorem look_name {M : Model} {n : Str} {r : Option Value} {Q : Option Value → Shared → Prop} (X : K.In h) (e : findIn K (.ref C) n = some r) (z : Q r ⟨h, g, d, t, os⟩) : wpAny M A (typeLookup (.ref C) n) Q E ⟨h, g, d, t, os⟩ :=
  (looks_findIn (M := M) X e).at z
theorem look_mro {M : Model} {b : Value} {r : Bool} {Q : Bool → Shared → Prop} (X : K.In h) (e : mroIn K C b = some r) (z : Q r ⟨h, g, d, t, os⟩) : wpAny M A (isSubtype (.ref C) b) Q E ⟨h, g, d, t, os⟩ :=
  (looks_mroIn (M := M) X e).at z
theorem exc_class_get {R : Result → Shared → Prop} {tp : Value} (Z : XIs K C) (X : K.In h) (hx : h.get? a = some o) (hc : o.cls = .ref C) (z : R (.ok (.ret (.ref C))) ⟨h, g, d, t, os⟩) :
    codeAny (model prog w) A (.call (.builtin "getset_descriptor.__get__") ⟨[.builtin "object.__class__", .ref a, tp], []⟩) R ⟨h, g, d, t, os⟩ := by
  have L0 : Looks (model prog w) h (typeOf (.ref a)) (.ref C) := by
    have := ((Looks.ld (M := model prog w) (part := some headPart) hx).andThen (f := fun o => pure o.cls) .now)
    rw [hc] at this
    exact this
  have L1 := looks_mroIn (M := model prog w) X Z.mo
  refine codeAny_call_builtin KF.slot_gs.plain KF.entry_gs (KF.slot_gs.check _ _ _ _ _ _ _ _ KF.type_class (KF.args_gs _ _ _) ?_)
  unfold Builtin.«getset_descriptor.__get__» descrGet
  rw [dga_obj]
  refine wpAny_bind (wpAny_pure ?_)
  unfold descrGetter descrCheckInstance descrNameAndClass isInstance
  simp only [KF.owner_class]
  repeat lk
  refine ⟨Code.quiet_builtin _ (by decide +kernel), codeAny_builtin KF.entry_class ?_⟩
  unfold Builtin.«object.__class__» shownTypeOf
  repeat lk
  exact z
theorem may_ga {M : Model} {nv : Value} {Q : Unit → Shared → Prop} (Z : XIs K C) (X : K.In h) (hx : h.get? a = some o) (hc : o.cls = .ref C) (z : Q () ⟨h, g, d, t, os⟩) :
    wpAny M A (checkBuiltinCall "BaseException.__getattribute__" ⟨[.ref a, nv], []⟩) Q E ⟨h, g, d, t, os⟩ := by
  have hk : builtinKind "BaseException.__getattribute__" = some .slot := by decide +kernel
  have hs : splitId "BaseException.__getattribute__" = some ("BaseException", "__getattribute__") := by decide +kernel
  have ha := PySem.F.args_bexc_ga (.ref a) nv
  simp only [checkBuiltinCall, hk, hs]
  refine wpAny_bind ?_
  unfold isInstance
  repeat
    first
    | (with_reducible refine wpAny_loadPart_at hx ?_; rw [hc])
    | with_reducible refine look_mro X Z.mb ?_
    | wp_step
  exact z
theorem exc_class {Q : Option Value → Shared → Prop} (Z : XIs K C) (X : K.In h) (hx : h.get? a = some o) (hc : o.cls = .ref C) (z : Q (some (.ref C)) ⟨h, g, d, t + 1, os⟩) :
    wpAny (model prog w) A (getAttr? (.ref a) "__class__") Q E ⟨h, g, d, t, os⟩ := by
  have f3 := PySem.F.excAttr_ValueError.ga.bind (.ref a)
  have b2 : (Value.builtin "BaseException.__getattribute__" == Value.builtin "object.__getattribute__") = false := by decide +kernel
  have b1 : (onTheHeap (Value.ref C) && Value.builtin "BaseException.__getattribute__" == Value.builtin "object.__getattribute__") = false := by rw [b2]; rfl
  have f5 := PySem.F.typeOf_object_class
  have f6 := PySem.F.slot_gs_get.lookup
  have f7 := PySem.F.slot_gs_set.lookup
  have hT5 : (⟨h, g, d, t + 1, os⟩ : Shared).TypeIs (.builtin "object.__class__") "getset_descriptor" := PySem.F.typeOf_object_class
  unfold getAttr? getAttrBy?
  refine wpAny_bind (wpAny_mkText (wpAny_bind (wpAny_attempt ?_)))
  unfold getAttrBy
  repeat
    any_goals
      first
      | assumption
      | (with_reducible refine wpAny_loadPart_at hx ?_; rw [hc])
      | with_reducible refine look_name X Z.ga ?_
      | with_reducible refine look_name X Z.hook ?_
      | wp_step
  refine codeAny_call_builtin PySem.F.excAttr_ValueError.ga.plain PySem.F.entry_bexc_ga (may_ga Z X hx hc ?_)
  repeat
    any_goals
      first
      | assumption
      | (with_reducible refine wpAny_loadPart_at hx ?_; rw [hc])
      | with_reducible refine look_name X Z.cl ?_
      | wp_step
  refine exc_class_get Z X hx hc ?_
  repeat
    any_goals
      first
      | assumption
      | wp_step
end
end L2
set_option Elab.async false
set_option linter.all false
set_option maxRecDepth 100000
set_option maxHeartbeats 1000000
namespace L2
open PySem PySem.Spec PyProof.Rows
def Cau (C a : Addr) : HO := .ext fun h => ∃ o, h.get? a = some o ∧ o.cls = .ref C
theorem kitx_exc {K : PySem.W.Frag} {C a : Addr} (Z : XIs K C) : PySem.W.KitX K (.ref a) (.ref C) (fun h => ∃ o, h.get? a = some o ∧ o.cls = .ref C) where
  ty := fun M h _ ⟨o, e, c⟩ => by
    have := ((PySem.W.Looks.ld (M := M) (part := some headPart) e).andThen (f := fun o => pure o.cls) .now)
    rw [c] at this
    exact this
  it := fun M h X _ => by
    have hc := Z.cls
    unfold PySem.W.clsIn at hc
    split at hc
    · rename_i ho
      intro A' Q' E' s' k q
      unfold isType loadHead
      exact wpAny_bind (wpAny_loadPart (k _ _ (X _ _ ho)) (wpAny_pure q))
    · cases hc
  ne := fun h tp dd its n sl X htp => by
    have hc := Z.cls
    refine Bool.eq_false_iff.mpr fun q => ?_
    have e : C = tp := Value.ref.inj (beq_iff_eq.mp q)
    subst e
    unfold PySem.W.clsIn at hc
    split at hc
    · rename_i ho
      cases (X _ _ ho).symm.trans htp
    · cases hc
  ca := fun {prog w A E Q s} X ⟨o, e, c⟩ k => by
    obtain ⟨h, g, d, t, os⟩ := s
    exact exc_class Z X e c k
def clsV : V → Value
  | .ty n => .type n
  | .ref a => .ref a
  | _ => .none
def isCls : V → Bool
  | .ty _ => true
  | .ref _ => true
  | _ => false
theorem clsV_of {x : V} {u : Value} (r : RelV x u) (h : isCls x = true) : u = clsV x := by
  cases x with
  | ty n => exact r
  | ref a => exact r
  | _ => cases h
theorem clsV_all : ∀ {xs : List V} {us : List Value}, Vals xs us → xs.all isCls = true → us = xs.map clsV
  | _, _, .nil, _ => rfl
  | _, _, .cons r t, h => by
    rw [List.all_cons, Bool.and_eq_true] at h
    rw [clsV_of r h.1, clsV_all t h.2, List.map_cons]
inductive TyX (K : PySem.W.Frag) (H : Hp) : V → Value → Prop where
  | of {x : V} {t : Value} (h : TyOf K H x t) : TyX K H x t
  | exc {a C : Addr} (e : H a = some (Cau C a)) (Z : XIs K C) : TyX K H (.ref a) (.ref C)
section
variable {X : Cx}
theorem TyX.kit {pins : List (Addr × Obj)} {σ : St} {H : Hp} {s : Shared} {x : V} {u t : Value} (I : Inv X pins σ H s) (rx : RelV x u) (ty : TyX X.K H x t) : ∃ Hh, PySem.W.KitX X.K u t Hh ∧ Hh s.heap ∧ u ≠ .builtin "__main__.__loader__#opaque" := by
  cases ty with
  | of ty =>
    cases ty with
    | non => cases (show u = Value.none from rx); exact ⟨_, PySem.W.kitx_none, True.intro, fun z => nomatch z⟩
    | bl y => cases (show u = Value.bool y from rx); exact ⟨_, PySem.W.kitx_bool, True.intro, fun z => nomatch z⟩
    | int i => obtain ⟨t, q⟩ := (show ∃ t, u = Value.int i t from rx); cases q; exact ⟨_, PySem.W.kitx_int, True.intro, fun z => nomatch z⟩
    | str y => obtain ⟨t, q⟩ := (show ∃ t, u = Value.str y t from rx); cases q; exact ⟨_, PySem.W.kitx_str, True.intro, fun z => nomatch z⟩
    | flt y => obtain ⟨t, q⟩ := (show ∃ t, u = Value.float y t from rx); cases q; exact ⟨_, PySem.W.kitx_float, True.intro, fun z => nomatch z⟩
    | @lst a xs ea =>
      cases (show u = Value.ref a from rx)
      obtain ⟨_, _, n, _, h1⟩ := (show ObjOk X.prog X.w H s.heap a (.lst xs) from I.hok a _ ea)
      exact ⟨_, PySem.W.kitx_list, ⟨_, h1, rfl⟩, fun z => nomatch z⟩
    | @frz a ob xs ea =>
      cases (show u = Value.ref a from rx)
      obtain ⟨_, _, _, n, _, h1⟩ := (show ObjOk X.prog X.w H s.heap a (.frz ob (.lst xs)) from I.hok a _ ea)
      exact ⟨_, PySem.W.kitx_list, ⟨_, h1, rfl⟩, fun z => nomatch z⟩
    | @tup a xs ea =>
      cases (show u = Value.ref a from rx)
      obtain ⟨_, _, _, o, h1, h2, _⟩ := (show ObjOk X.prog X.w H s.heap a (.tup xs) from I.hok a _ ea)
      exact ⟨_, PySem.W.kitx_tuple, ⟨o, h1, h2⟩, fun z => nomatch z⟩
    | @dK a kvs ea =>
      cases (show u = Value.ref a from rx)
      obtain ⟨_, _, vs, _, o, es, ep, h1, h2, _⟩ := (show ObjOk X.prog X.w H s.heap a (.dK kvs) from I.hok a _ ea)
      exact ⟨_, PySem.W.kitx_dict, ⟨o, h1, h2.1⟩, fun z => nomatch z⟩
    | @dT a kvs ea =>
      cases (show u = Value.ref a from rx)
      obtain ⟨_, _, xs, _, o, es, ep, h1, h2, _⟩ := (show ObjOk X.prog X.w H s.heap a (.dT kvs) from I.hok a _ ea)
      exact ⟨_, PySem.W.kitx_dict, ⟨o, h1, h2.1⟩, fun z => nomatch z⟩
    | @ins a C dx fs ea cl ha hn htk hm =>
      cases (show u = Value.ref a from rx)
      obtain ⟨mA, O, _⟩ := ins_get I.hok ea
      obtain ⟨od, J, _⟩ := O.look
      exact ⟨_, PySem.W.kitx_own (cl.get _) cl.hd ha hn htk hm, J, fun z => nomatch z⟩
  | @exc a C e Z =>
    cases (show u = Value.ref a from rx)
    obtain ⟨h1, _⟩ := (show ObjOk X.prog X.w H s.heap a (Cau C a) from I.hok a _ e)
    exact ⟨_, kitx_exc Z, h1, fun z => nomatch z⟩
def rIsi (K : PySem.W.Frag) : List V → Hp → VK → Prop := fun xs H Q => ∃ x c t b, xs = [x, c] ∧ TyX K H x t ∧
  ((isCls c = true ∧ PySem.W.kitOne K t (clsV c) = some b) ∨ (∃ p ys, c = .ref p ∧ H p = some (.tup ys) ∧ ys.all isCls = true ∧ PySem.W.kitAny K t (ys.map clsV) = some b)) ∧ Q (.bl b) H
theorem call_isi : CallR X (.builtin "isinstance") (rIsi X.K) := by
  intro pins s σ H xs us Q I r h
  obtain ⟨x, c, t, b, e, ty, h, q⟩ := h
  subst e
  cases r with
  | @cons _ u _ _ rx r =>
    cases r with
    | @cons _ v _ _ rc r =>
      cases r
      obtain ⟨Hh, Z, hp, hne⟩ := ty.kit I rx
      rcases h with ⟨hc, hk⟩ | ⟨p, ys, e, hH, hall, hk⟩
      · cases clsV_of rc hc
        exact PySem.W.kia_one Z I.kIn hp hk hne fun tk => ⟨.bl b, H, I.tok tk, rfl, q⟩
      · subst e
        cases (show v = Value.ref p from rc)
        obtain ⟨_, its, rv, ⟨oc, od, oda, osl⟩, h1, h2, n, h3⟩ := (show ObjOk X.prog X.w H s.heap p (.tup ys) from I.hok p _ hH)
        dsimp only at h2 h3
        subst h2 h3
        cases clsV_all rv hall
        exact PySem.W.kia_tup Z I.kIn hp h1 hk hne fun tk => ⟨.bl b, H, I.tok tk, rfl, q⟩
end
end L2
set_option Elab.async false
set_option linter.all false
set_option maxRecDepth 100000
set_option maxHeartbeats 1000000
namespace L2
open PySem PySem.Spec PyProof.Rows
abbrev TSX := Ends → XK → St → Hp → Prop
section
variable {X : Cx} {CX : CXT} {k : Nat} {f : Addr} {fd : FuncData} {ps : List Str} {sp : Sp} {x : Str} {p pos epos : Pos} {e : Expr} {es : List Expr} {t : TA}
end
section
variable {X : Cx} {pins : List (Addr × Obj)} {σ : St} {H : Hp} {s : Shared} {a : Addr}
end
section
variable {X : Cx} {body suite : List Stmt} {b0 : Stmt} {tb : TSX} {ts : TS} {i : Nat} {n cx : Str} {np hpos pos : Pos} {W : Addr}
end
end L2
set_option Elab.async false
set_option linter.all false
set_option maxRecDepth 100000
set_option maxHeartbeats 1000000
namespace L2
open PySem PySem.Spec PyProof.Rows
section
variable {X : Cx}
def Big (i : Int) : Prop := i.natAbs < 2 ^ 8000
theorem big_py {i j : Int} (h : Big j) : Builtin.divisionGoesByPylong i j = false := by
  refine PyProof.noPylong_of_log2 ?_
  by_cases z : j.natAbs = 0
  · rw [z]; decide
  · exact Nat.lt_trans ((Nat.log2_lt z).mpr h) (by decide)
theorem op_fdivB : OpR X (binaryOp .FloorDiv) (rI (fun _ j => 0 < j ∧ Big j) fun i j => .int (i / j)) := opI fun i j _ _ _ _ _ hc q => by
  have h1 : (0 : Int) < j := hc.1
  exact floordiv_int (by omega) (by rw [Int.fdiv_eq_ediv_of_nonneg i (by omega)]; exact q) (.inl (big_py hc.2))
theorem call_sumL (hc : X.calm = true) : CallR X (.builtin "sum") (fun xs H Q => ∃ (p : Addr) (ns : List Int), xs = [.ref p] ∧ SqL X.K H p (ns.map V.int) ∧ Q (.int ns.sum) H) := by
  intro pins s σ H xs us Q I r h
  obtain ⟨p, ns, e, hp, q⟩ := h
  subst e
  cases r with
  | @cons _ u _ _ r rr =>
    cases rr
    cases (show u = Value.ref p from r)
    obtain ⟨its, rv, pl, _⟩ := I.list hp
    have hi := intsAre_of rv
    obtain ⟨zs, ez⟩ := hi.allInts.items
    have hl := pl.isList
    rw [ez] at hl
    refine sum_intListG (I.ok.hd hc) hl fun h' tk t' hk => ?_
    have e2 : preSum (numAt zs) zs.size = ns.sum := by
      have e3 : numsOf (intItems zs).toList = ns := by
        rw [← ez]
        exact hi.numsOf
      rw [preSum_eq, List.take_of_length_le (by simp), ← nums_intItems, e3]
    rw [e2]
    exact ⟨.int ns.sum, H, I.kept hk, ⟨_, rfl⟩, q⟩
end
theorem kit_tuple_tuple (K : PySem.W.Frag) : PySem.W.kitOne K (.type "tuple") (.type "tuple") = some true := by kernel_rfl
theorem kit_int_int (K : PySem.W.Frag) : PySem.W.kitOne K (.type "int") (.type "int") = some true := by kernel_rfl
theorem kit_int_bool (K : PySem.W.Frag) : PySem.W.kitOne K (.type "int") (.type "bool") = some false := by kernel_rfl
theorem boot_isinstance : bootBuiltins "isinstance" = some (.builtin "isinstance") := by decide +kernel
theorem boot_sum : bootBuiltins "sum" = some (.builtin "sum") := by decide +kernel
end L2
set_option Elab.async false
set_option linter.all false
set_option maxRecDepth 100000
set_option maxHeartbeats 1000000
namespace L2
open PySem PySem.Spec PyProof.Rows
section
variable {X : Cx}
end
section
variable {X : Cx} {CX : CXT} {k : Nat} {f : Addr} {fd : FuncData} {ps : List Str} {sp : Sp} {x : Str} {p pos rpos : Pos} {e : Expr} {es : List Expr} {t : TA}
end
section
variable {X : Cx} {body suite : List Stmt} {b0 : Stmt} {tb : TSX} {ts : TS} {cx : Str} {np hpos pos : Pos} {W : Addr}
end
theorem boot_int1 : bootBuiltins "int" = some (.type "int") := by decide +kernel
end L2
set_option Elab.async false
set_option linter.all false
set_option maxRecDepth 100000
set_option maxHeartbeats 1000000
namespace L2
section
open PySem
variable {prog : Program} {w : World} {A : Around} {R : Result → Shared → Prop} {s : Shared}
theorem comp_turns {elt target iter : Expr} {ifs : List Expr} {scope : Scope} {pos : Pos} {it acc : Value} {env : Env} (I : Nat → Shared → Prop)
    (turn : ∀ n s, I n s → wpAny (model prog w) A (pyNext it) (fun r s₁ => match r with
      | none => R (.ok .next) s₁
      | some v => wpAny (model prog w) A (letOwnedTupleGo target it v) (fun _ s₁' => wpAny (model prog w) A (assign target env v) (fun _ s₂ =>
          wpAny (model prog w) A (forIn ifs true fun c r => if r = true then do let ok ← isTrue c env (eval c env); pure (ForInStep.yield ok) else pure (ForInStep.yield r)) (fun ok s₃ =>
            if ok = true then wpAny (model prog w) A (eval elt env) (fun x s₄ =>
              wpAny (model prog w) A (call (.builtin "list.append") [acc, x]) (fun _ s₅ => ∃ m, m < n ∧ I m s₅) (fun _ _ => False) s₄) (fun _ _ => False) s₃
            else ∃ m, m < n ∧ I m s₃) (fun _ _ => False) s₂) (fun _ _ => False) s₁') (fun _ _ => False) s₁) (fun _ _ => False) s)
    (n : Nat) (h : I n s) : codeAny (model prog w) A (.compLoop (.ListComp elt [⟨target, iter, ifs, 0⟩] scope pos) 0 it acc env) R s := by
  refine codeAny_loop rfl I (fun n s hI => ?_) n h
  show wpAny _ A ((compTurn (.ListComp elt [⟨target, iter, ifs, 0⟩] scope pos) 0 it acc env).onRaise (fun x => do noteFrame x env; theTreesLotGoes x)) _ _ s
  refine wpAny_noted ?_
  rw [compTurn_list]
  refine wpAny_bind (wpAny_standAt (wpAny_bind (wpAny_mono (turn n s hI) (fun r s₁ h₁ => ?_) fun _ _ z => z.elim)))
  cases r with
  | none => exact wpAny_pure h₁
  | some v =>
    refine wpAny_bind (wpAny_mono h₁ (fun _ s₁' h₁' => ?_) fun _ _ z => z.elim)
    refine wpAny_bind (wpAny_mono h₁' (fun _ s₂ h₂ => wpAny_bind (wpAny_mono h₂ (fun ok s₃ h₃ => ?_) fun _ _ z => z.elim)) fun _ _ z => z.elim)
    cases ok with
    | false => exact wpAny_pure ⟨rfl, h₃⟩
    | true =>
      exact wpAny_bind (wpAny_bind (wpAny_mono h₃ (fun x s₄ h₄ => wpAny_bind (wpAny_mono h₄ (fun _ s₅ h₅ => wpAny_pure (wpAny_pure ⟨rfl, h₅⟩)) fun _ _ z => z.elim)) fun _ _ z => z.elim))
def closOf (names : List (Str × NameKind)) (cells : List (Str × Addr)) : List (Str × Addr) → List (Str × Addr) := match names with
  | [] => fun cs => cs
  | (n, k) :: r => fun cs => closOf r cells (if (k == .free) = true then (n, (cells.lookup n).getD 0) :: cs else cs)
def hasCells (names : List (Str × NameKind)) (cells : List (Str × Addr)) : Bool := names.all fun y => !(y.2 == .free) || (cells.lookup y.1).isSome
theorem clos_go (env : Env) : ∀ (names : List (Str × NameKind)) (cs : List (Str × Addr)), hasCells names env.cells = true →
    (forIn names cs fun (x : Str × NameKind) (r : List (Str × Addr)) => match x with
      | (name, kind) => if (kind == NameKind.free) = true then do let __do_lift ← cellOf env name; pure (ForInStep.yield ((name, __do_lift) :: r)) else pure (ForInStep.yield r) : Sem (List (Str × Addr))) = pure (closOf names env.cells cs)
  | [], cs, _ => rfl
  | (n, k) :: r, cs, h => by
    unfold hasCells at h
    rw [List.all_cons, Bool.and_eq_true] at h
    rw [List.forIn_cons]
    unfold closOf
    by_cases hk : (k == NameKind.free) = true
    · rw [if_pos hk]
      dsimp only
      rw [if_pos hk]
      have h1 : (env.cells.lookup n).isSome = true := by
        have := h.1
        rw [hk] at this
        simpa using this
      obtain ⟨c, hc⟩ := Option.isSome_iff_exists.mp h1
      have e : cellOf env n = pure c := by unfold cellOf; rw [hc]
      rw [e, hc]
      exact clos_go env r _ h.2
    · rw [if_neg hk]
      dsimp only
      rw [if_neg hk]
      exact clos_go env r _ h.2
theorem clos_eq {scope : Scope} {env : Env} (h : hasCells scope.names env.cells = true) : closureFor scope env = pure (closOf scope.names env.cells []) := by
  unfold closureFor
  have := clos_go env scope.names [] h
  simp only [bind_pure]
  exact this
theorem clos_sub {cells : List (Str × Addr)} : ∀ (names : List (Str × NameKind)) (cs : List (Str × Addr)), hasCells names cells = true → (∀ y c, cs.lookup y = some c → cells.lookup y = some c) → ∀ y c, (closOf names cells cs).lookup y = some c → cells.lookup y = some c
  | [], cs, _, hc, y, c, e => hc y c e
  | (n, k) :: r, cs, h, hc, y, c, e => by
    unfold hasCells at h
    rw [List.all_cons, Bool.and_eq_true] at h
    refine clos_sub r _ h.2 (fun z d q => ?_) y c e
    by_cases hk : (k == NameKind.free) = true
    · rw [if_pos hk, List.lookup_cons] at q
      cases zn : (z == n) with
      | true =>
        rw [zn] at q
        have h1 : (cells.lookup n).isSome = true := by
          have := h.1
          rw [hk] at this
          simpa using this
        obtain ⟨c', hc'⟩ := Option.isSome_iff_exists.mp h1
        have zn' : z = n := by simpa using zn
        rw [zn', hc']
        have q' : some ((cells.lookup n).getD 0) = some d := q
        rw [hc'] at q'
        exact q'
      | false =>
        rw [zn] at q
        exact hc z d q
    · rw [if_neg hk] at q
      exact hc z d q
theorem clos_keep {cells : List (Str × Addr)} : ∀ (names : List (Str × NameKind)) (cs : List (Str × Addr)) (y : Str), (∃ c, cs.lookup y = some c) → ∃ c, (closOf names cells cs).lookup y = some c
  | [], cs, y, h => h
  | (n, k) :: r, cs, y, h => by
    refine clos_keep r _ y ?_
    by_cases hk : (k == NameKind.free) = true
    · rw [if_pos hk, List.lookup_cons]
      cases zn : (y == n) with
      | true => exact ⟨_, rfl⟩
      | false => exact h
    · rw [if_neg hk]
      exact h
theorem clos_has {cells : List (Str × Addr)} : ∀ (names : List (Str × NameKind)) (cs : List (Str × Addr)) (y : Str), (y, NameKind.free) ∈ names → ∃ c, (closOf names cells cs).lookup y = some c
  | [], _, y, h => by cases h
  | (n, k) :: r, cs, y, h => by
    rcases List.mem_cons.mp h with e | h
    · obtain ⟨e1, e2⟩ := Prod.mk.inj e
      subst e1
      subst e2
      unfold closOf
      refine clos_keep r _ y ?_
      rw [if_pos (show (NameKind.free == NameKind.free) = true from rfl), List.lookup_cons]
      have : (y == y) = true := by simp
      rw [this]
      exact ⟨_, rfl⟩
    · exact clos_has r _ y h
end
open PySem PySem.Spec PyProof.Rows
abbrev XC (X : Cx) (scope : Scope) (NC : List Str) (C : Addr) (s : Shared) (H : Hp) (fp : List Addr) (pn : List (Addr × Obj)) : Cx :=
  { X with N := NC, s₀ := s, H₀ := H, env := compEnvC scope (closOf scope.names X.env.cells []) C X.env, outer := X.stack, stack := X.stack, ex := fp, fn := fun _ => false, pn := pn, xe := fun _ _ => False }
def subS (mp : List (Option Nat)) (σ : St) : St := mp.map fun o => match o with
  | some i => (σ[i]?).getD none
  | none => none
def okMap (N NC : List Str) (mp : List (Option Nat)) (names outer : List (Str × NameKind)) : Bool := (List.range mp.length).all fun j => match mp[j]? with
  | some (some i) => (match NC[j]?, N[i]? with
    | some y, some z => y == z && names.lookup y == some NameKind.free && (outer.lookup y == some NameKind.cell || outer.lookup y == some NameKind.free)
    | _, _ => false)
  | _ => true
theorem okMap_at {N NC : List Str} {mp : List (Option Nat)} {names outer : List (Str × NameKind)} (h : okMap N NC mp names outer = true) {j i : Nat} (e : mp[j]? = some (some i)) : ∃ y, NC[j]? = some y ∧ N[i]? = some y ∧ names.lookup y = some .free ∧ (outer.lookup y = some .cell ∨ outer.lookup y = some .free) := by
  unfold okMap at h
  rw [List.all_eq_true] at h
  have hj : j < mp.length := (List.getElem?_eq_some_iff.mp e).1
  have := h j (List.mem_range.mpr hj)
  rw [e] at this
  dsimp only at this
  split at this
  · rename_i y z e1 e2
    simp only [Bool.and_eq_true, Bool.or_eq_true, beq_iff_eq] at this
    obtain ⟨⟨rfl, h2⟩, h3⟩ := this
    exact ⟨y, e1, e2, h2, h3⟩
  · cases this
def PTs (X : Cx) (ifs : List Expr) (t : TT) : Prop :=
  ∀ (pins : List (Addr × Obj)) (s : Shared) (σ : St) (H : Hp) (Q : Bool → Hp → Prop), Inv X pins σ H s → t σ H Q →
    wpAny (model X.prog X.w) X.A (forIn ifs true fun c r => if r = true then do let ok ← isTrue c X.env (eval c X.env); pure (ForInStep.yield ok) else pure (ForInStep.yield r)) (TP X pins σ Q) X.xe s
def tNoTest : TT := fun _ H Q => Q true H
theorem pts_nil {X : Cx} : PTs X [] tNoTest := fun _ _ σ H Q I h => wpAny_tests_nil ⟨H, I, h⟩
def Ext (σ σ' : St) : Prop := ∀ (j : Nat) (v : V), σ[j]? = some (some v) → σ'[j]? = some (some v)
theorem Ext.refl (σ : St) : Ext σ σ := fun _ _ e => e
theorem ext1 {o : Option V} {r : St} : Ext (none :: r) (o :: r)
  | 0, v, e => by cases (Option.some.inj (show some (none : Option V) = some (some v) from e))
  | j + 1, v, e => e
def tComp (mp : List (Option Nat)) (wi : TI) (g : TG) (tc : TT) (te : TE) : TE := fun σ H Q => wi σ H fun J H1 => ∀ D, H1 D = none →
  ∃ W : Nat → Nat → List V → Hp → Prop, (∃ m, W 0 m [] (upd H1 D (.lst []))) ∧ ∀ i m acc H2, W i m acc H2 →
    (J.stop i H2 ∧ Q (.ref D) H2) ∨
    (J.go i H2 ∧ ∀ x H3, J.yld i H2 x H3 → g x (subS mp σ) H3 fun σ4 H4 => Ext (subS mp σ) σ4 ∧ tc σ4 H4 fun b H5 => if b = true then te σ4 H5 fun v H6 => H6 D = some (.lst acc) ∧ acc.length < sizeLine ∧ ∃ m', m' < m ∧ W (i + 1) m' (acc ++ [v]) (upd H6 D (.lst (acc ++ [v])))
      else ∃ m', m' < m ∧ W (i + 1) m' acc H5)
end L2
set_option Elab.async false
set_option linter.all false
set_option maxRecDepth 100000
set_option maxHeartbeats 1000000
namespace L2
open PySem PySem.Spec PyProof.Rows
theorem lookup_relabel_free {env : Env} : ∀ {names : List (Str × NameKind)} {x : Str}, names.lookup x = some .free →
    (names.map fun (n, k) => if (k == NameKind.free && env.scope.kind == .function && env.kindOf n == some .cell) then (n, NameKind.cell) else (n, k)).lookup x = some .cell ∨
    (names.map fun (n, k) => if (k == NameKind.free && env.scope.kind == .function && env.kindOf n == some .cell) then (n, NameKind.cell) else (n, k)).lookup x = some .free
  | [], _, h => by simp at h
  | (n, k) :: r, x, h => by
    have ih := @lookup_relabel_free env r x
    show List.lookup x ((if (k == NameKind.free && env.scope.kind == .function && env.kindOf n == some .cell) = true then (n, NameKind.cell) else (n, k)) :: _) = _ ∨ List.lookup x ((if (k == NameKind.free && env.scope.kind == .function && env.kindOf n == some .cell) = true then (n, NameKind.cell) else (n, k)) :: _) = _
    cases hx : x == n with
    | true =>
      simp only [List.lookup_cons, hx] at h
      cases h
      by_cases hc : (NameKind.free == NameKind.free && env.scope.kind == .function && env.kindOf n == some .cell) = true
      · rw [if_pos hc]
        left
        simp only [List.lookup_cons, hx]
      · rw [if_neg hc]
        right
        simp only [List.lookup_cons, hx]
    | false =>
      simp only [List.lookup_cons, hx] at h
      by_cases hc : (k == NameKind.free && env.scope.kind == .function && env.kindOf n == some .cell) = true
      · rw [if_pos hc]
        simp only [List.lookup_cons, hx]
        exact ih h
      · rw [if_neg hc]
        simp only [List.lookup_cons, hx]
        exact ih h
theorem relabel_mem {env : Env} : ∀ {names : List (Str × NameKind)} {x : Str}, (∀ y ∈ names, y.2 ≠ .cell) →
    ((names.map fun (n, k) => if (k == NameKind.free && env.scope.kind == .function && env.kindOf n == some .cell) then (n, NameKind.cell) else (n, k)).lookup x = some .cell ∨
    (names.map fun (n, k) => if (k == NameKind.free && env.scope.kind == .function && env.kindOf n == some .cell) then (n, NameKind.cell) else (n, k)).lookup x = some .free) → (x, NameKind.free) ∈ names
  | [], _, _, h => by simp at h
  | (n, k) :: r, x, hn, h => by
    have ih := @relabel_mem env r x (fun y hy => hn y (List.mem_cons_of_mem _ hy))
    have nk : k ≠ .cell := hn (n, k) List.mem_cons_self
    rw [List.map_cons] at h
    dsimp only at h
    cases hx : x == n with
    | true =>
      have xn : x = n := by simpa using hx
      subst xn
      by_cases hc : (k == NameKind.free && env.scope.kind == .function && env.kindOf x == some .cell) = true
      · have : k = .free := by
          have := hc
          rw [Bool.and_eq_true, Bool.and_eq_true] at this
          simpa using this.1.1
        rw [this]
        exact List.mem_cons_self
      · rw [if_neg hc, List.lookup_cons, hx] at h
        rcases h with h | h
        · exact absurd (Option.some.inj h) nk
        · cases (Option.some.inj h)
          exact List.mem_cons_self
    | false =>
      refine List.mem_cons_of_mem _ (ih ?_)
      by_cases hc : (k == NameKind.free && env.scope.kind == .function && env.kindOf n == some .cell) = true
      · rw [if_pos hc, List.lookup_cons, hx] at h
        exact h
      · rw [if_neg hc, List.lookup_cons, hx] at h
        exact h
section
variable {X : Cx} {pins : List (Addr × Obj)} {σ : St} {H : Hp} {s : Shared}
theorem Inv.block {scope : Scope} {NC : List Str} {mp : List (Option Nat)} {fp : List Addr} {h1 : Heap} {tk : Nat} {m : Str → Option Value} (I : Inv X pins σ H s) (hf : ∀ b ∈ fp, FpOk X pins H b) (hlt : ∀ b ∈ fp, b < s.heap.objs.size) (hk : scope.kind = .function) (hnc : ∀ y ∈ scope.names, y.2 ≠ .cell)
    (hc : hasCells scope.names X.env.cells = true) (hl : mp.length = NC.length) (hm : okMap X.N NC mp scope.names X.env.scope.names = true) (kp : ∀ b o, s.heap.get? b = some o → h1.get? b = some o) (hn : h1.Ns s.heap.objs.size m) :
    Inv (XC X scope NC s.heap.objs.size s H fp (X.pn ++ pins)) [] (subS mp σ) H { s with heap := h1, toks := tk } := by
  have sub := clos_sub (cells := X.env.cells) scope.names [] hc (fun y c e => by cases e)
  have lt : ∀ b o, s.heap.get? b = some o → b ≠ s.heap.objs.size := fun b o e => Nat.ne_of_lt (Heap.lt_size e)
  have nst : ∀ b, b ≠ X.env.locals → b ∉ X.fs → b ∉ frs X.stack := fun b h1 h2 z => by
    rcases List.mem_cons.mp (I.stkSub b z) with e | e
    · exact h1 e
    · exact h2 e
  refine ⟨⟨I.ok.mod, hk, I.ok.glob, I.ok.blt, Nat.le_refl _, fun x y c e1 e2 => I.ok.inj x y c (sub x c e1) (sub y c e2), fun x hx => ?_, (fun _ _ z => by cases z), I.ok.hd, I.ok.frames, .inl rfl, fun b hb => ?_, fun b o e => ?_, Nat.le_trans I.ok.bsz I.sz, fun b o e hb => ?_, fun b hb => ?_, I.stack, I.stkFree⟩,
    rfl, I.bare, Un.kept kp, ⟨m, hn, fun j y v e1 e2 e3 => ?_⟩, fun y c e => ?_, I.hok.fresh (Nat.le_refl _), fun y c e => I.freeC y c (sub y c e), fun p hp => ?_, I.hok.kept kp, ?_⟩
  · exact clos_has scope.names [] x (relabel_mem hnc hx)
  · obtain ⟨f0, f1, f2, f3, f4, f5⟩ := hf b hb
    exact ⟨Nat.ne_of_lt (hlt b hb), fun x c e => f4 x c (sub x c e)⟩
  · obtain ⟨h1, h2⟩ := I.bs b o e
    exact ⟨h1, h2⟩
  · obtain ⟨f0, f1, f2, f3, f4, f5⟩ := hf b hb
    rcases f3 with z | z
    · exact I.ok.noex b o e z
    · exact absurd (Nat.lt_of_lt_of_le (Heap.lt_size e) (Nat.le_trans I.ok.bsz z)) (Nat.lt_irrefl _)
  · obtain ⟨f0, f1, f2, f3, f4, f5⟩ := hf b hb
    exact nst b f1 f2
  · -- a captured name
    unfold subS at e2
    rw [List.getElem?_map] at e2
    cases q : mp[j]? with
    | none => rw [q] at e2; cases e2
    | some o =>
      rw [q] at e2
      cases o with
      | none => cases e2
      | some i =>
        have e2' : some ((σ[i]?).getD none) = some (some v) := e2
        obtain ⟨z, y1, y2, y3, y4⟩ := okMap_at hm q
        have yz : y = z := Option.some.inj ((show NC[j]? = some y from e1).symm.trans y1)
        subst yz
        have e4 : σ[i]? = some (some v) := by
          cases w : σ[i]? with
          | none => rw [w] at e2'; cases e2'
          | some t => rw [w] at e2'; exact e2'
        obtain ⟨m0, hn0, hl0⟩ := I.loc
        obtain ⟨c, hcl⟩ := clos_has (cells := X.env.cells) scope.names [] y (PySem.mem_of_lookup y3)
        have hcx := sub y c hcl
        have vis : Vis X.env.scope y := .inr y4
        obtain ⟨u, ru, lk⟩ := hl0 i y v y2 e4 vis
        refine ⟨u, ru, .inr ⟨lookup_relabel_free y3, c, hcl, ?_⟩⟩
        rcases lk with ⟨k1, _⟩ | ⟨_, c', k2, k3⟩
        · have k1' : X.env.scope.names.lookup y = some .local := k1
          rcases y4 with y4 | y4 <;> (rw [y4] at k1'; cases k1')
        · rw [hcx] at k2
          cases k2
          obtain ⟨oc, q1, q2⟩ := k3
          exact ⟨oc, kp _ _ q1, q2⟩
  · obtain ⟨v, oc, q1, q2⟩ := I.cell y c (sub y c e)
    exact ⟨v, oc, kp _ _ q1, q2⟩
  · have hp' : p ∈ X.pn ++ pins := by simpa using hp
    obtain ⟨q1, q2, q3, q4, q5⟩ := I.pin p hp'
    exact ⟨kp _ _ q1, q2, lt _ _ q1, nst _ q3 q4, q5⟩
  · show (subS mp σ).length = NC.length
    unfold subS
    rw [List.length_map, hl]

variable {elt target iter : Expr} {ifs : List Expr} {scope : Scope} {NC : List Str} {mp : List (Option Nat)} {pos : Pos} {wi : TI} {g : TG} {tc : TT} {te : TE}
theorem pe_comp (hcalm : X.calm = true) (hi : PI X target iter wi) (hg : ∀ C s H fp pn, PG (XC X scope NC C s H fp pn) target g) (ht : ∀ C s H fp pn, PTs (XC X scope NC C s H fp pn) ifs tc) (he : ∀ C s H fp pn, PE (XC X scope NC C s H fp pn) elt te)
    (hl : mp.length = NC.length := by rfl) (hm : okMap X.N NC mp scope.names X.env.scope.names = true := by rfl) (hc : hasCells scope.names X.env.cells = true := by rfl) (hk : scope.kind = .function := by rfl)
    (hnc : ∀ y ∈ scope.names, y.2 ≠ .cell := by decide +kernel) (hnm : ∀ y ∈ scope.names, y.2 = .local → scope.names.lookup y.1 = some .local := by decide +kernel) (hs : ∀ x, foldedSetIterable iter X.env x = pure x := by intro _; rfl) :
    PE X (.ListComp elt [⟨target, iter, ifs, 0⟩] scope pos) (tComp mp wi g tc te) := by
  intro pins s σ H Q I h
  rw [eval_ListComp]
  refine wpAny_comprehension_free (use := none) rfl hs (clos_eq hc) hk hnm (thn (hi pins s σ H _ I h) fun v s1 h1 => thn h1 fun itv s2 h2 => ?_)
  obtain ⟨it, fp, tn, J, H2, e, I2, T, st2, f2, W⟩ := h2
  subst e
  refine wpAny_newObj_type ?_ (by show 0 ≤ sizeLine; decide)
  have nD : H2 s2.heap.objs.size = none := I2.hok.fresh (Nat.le_refl _)
  have I3 : Inv X pins σ (upd H2 s2.heap.objs.size (.lst [])) { s2 with heap := s2.heap.push { cls := .type "list", data := .seq ([] : List Value).toArray } } :=
    I2.laid (t' := s2.toks) (fun b u e => Heap.get?_push_of_some _ e) (Nat.le_refl _) ⟨by show 0 ≤ sizeLine; decide, [], 0, .nil, Heap.get?_push_size _ rfl⟩
  obtain ⟨W, ⟨m0, w0⟩, turn⟩ := W _ nD
  have lt2 : ∀ b ∈ fp, b < s2.heap.objs.size := fun b hb => by
    obtain ⟨o, e, _⟩ := T.obj 0 _ st2 b hb
    exact Heap.lt_size e
  have nDf : ∀ b ∈ fp, b ≠ s2.heap.objs.size := fun b hb => Nat.ne_of_lt (lt2 b hb)
  have f3 : ∀ b ∈ fp, FpOk X pins (upd H2 s2.heap.objs.size (.lst [])) b := fun b hb => by
    obtain ⟨g0, g1⟩ := f2 b hb
    exact ⟨by rw [upd_ne (nDf b hb)]; exact g0, g1⟩
  have st3 : tn 0 (s2.heap.push { cls := .type "list", data := .seq ([] : List Value).toArray }) := T.keep 0 _ _ st2 fun b _ o e => Heap.get?_push_of_some _ e
  have lt3 : ∀ b ∈ fp, b < (s2.heap.push { cls := .type "list", data := .seq ([] : List Value).toArray }).objs.size := fun b hb => by
    rw [Heap.size_push]
    exact Nat.lt_succ_of_lt (lt2 b hb)
  generalize hD : s2.heap.objs.size = D at *
  generalize hs3 : ({ s2 with heap := s2.heap.push { cls := .type "list", data := .seq ([] : List Value).toArray } } : Shared) = s3 at *
  have hh3 : s3.heap = s2.heap.push { cls := .type "list", data := .seq ([] : List Value).toArray } := by rw [← hs3]
  rw [← hh3] at st3 lt3
  generalize hH3 : upd H2 D (.lst []) = H3 at *
  refine wpAny_newFunctionEnv (around := some X.env) hnc (by intro y hy; cases hy) (fun h4 hn4 hsb4 => ?_) hk
  have kp4 : ∀ b o, s3.heap.get? b = some o → h4.get? b = some o := fun b o e => hsb4.extBut b o (Nat.ne_of_lt (Heap.lt_size e)) (Heap.get?_push_of_some _ e)
  have I4 := I3.block (tk := s3.toks + ([] : List (Str × Value)).length) f3 lt3 hk hnc hc hl hm kp4 hn4
  have st4 : tn 0 h4 := T.keep 0 _ _ st3 fun b _ o e => kp4 b o e
  have fin : ∀ (s5 : Shared) (σ5 : St) (H5 : Hp), Inv (XC X scope NC s3.heap.objs.size s3 H3 fp (X.pn ++ pins)) [] σ5 H5 s5 → Q (.ref D) H5 → compPost (model X.prog X.w) X.A X.xe none (EP X pins σ Q) (.ref D) s3.heap.objs.size (.ok .next) s5 := by
    intro s5 σ5 H5 I5 q5
    obtain ⟨m5, hn5, _⟩ := id I5.loc
    refine ⟨m5, hn5, fun h6 sb6 => ⟨.ref D, H5, ?_, rfl, q5⟩⟩
    have kp6 : ∀ b o, b ≠ s3.heap.objs.size → s5.heap.get? b = some o → h6.get? b = some o := fun b o hb e => sb6.extBut b o hb e
    have nC : ∀ b o, s3.heap.get? b = some o → b ≠ s3.heap.objs.size := fun b o e => Nat.ne_of_lt (Heap.lt_size e)
    have un : Un (frs X.stack) fp H3 H5 s3.heap s5.heap := I5.base
    have hfree : H5 s3.heap.objs.size = none := I5.free
    refine I3.call' (s' := { s5 with heap := h6 }) (ch := fp) I5.os ⟨fun b o e n hb hx => kp6 b o (nC b o e) (un.keep b o e n hb hx), fun b o e n hb hx => ?_, un.free, fun b o e hx => ?_, un.tups, un.frzs, un.tbls⟩ ?_ I5.bare (fun b hb => ?_)
    · obtain ⟨sl, e1⟩ := un.slot b o e n hb hx
      exact ⟨sl, kp6 b _ (nC b o e) e1⟩
    · obtain ⟨o', e1⟩ := un.there b o e hx
      exact ⟨o', kp6 b o' (nC b o e) e1⟩
    · intro b o e
      have nb : b ≠ s3.heap.objs.size := fun z => by rw [z, hfree] at e; cases e
      refine (I5.hok b o e).stay (fun c v hc' r => kp6 c v ?_ r) (fun _ r => r) fun _ _ r => r
      rcases hc' with z | z
      · rw [z]; exact nb
      · intro y
        rw [y, hfree] at z
        cases z
    · obtain ⟨g0, g1, g2, g3, g4, g5⟩ := f3 b hb
      exact ⟨g3, g1, g4, g5⟩
  have loop : codeAny (model X.prog X.w) X.A (.compLoop (.ListComp elt [⟨target, iter, ifs, 0⟩] scope pos) 0 (.ref it) (.ref D) (compEnvC scope (closOf scope.names X.env.cells []) s3.heap.objs.size X.env)) (compPost (model X.prog X.w) X.A X.xe none (EP X pins σ Q) (.ref D) s3.heap.objs.size)
      { s3 with heap := h4, toks := s3.toks + ([] : List (Str × Value)).length } := by
    refine comp_turns (fun n s' => ∃ i acc σ' H', Inv (XC X scope NC s3.heap.objs.size s3 H3 fp (X.pn ++ pins)) [] σ' H' s' ∧ Ext (subS mp σ) σ' ∧ tn i s'.heap ∧ (∀ b ∈ fp, H' b = none) ∧ W i n acc H') ?_ m0
      ⟨0, [], subS mp σ, H3, I4, fun _ _ e => e, st4, fun b hb => (f3 b hb).1, w0⟩
    rintro n s5 ⟨i, acc, σ5, H5, I5, hσ, st5, fr5, w5⟩
    have I5' : Inv (XC X scope NC s3.heap.objs.size s3 H3 fp (X.pn ++ pins)) [] (subS mp σ) H5 s5 := I5.weak (by rw [I5.len]; unfold subS; rw [List.length_map]; exact hl) hσ
    have fpk : ∀ {H' : Hp}, (∀ b ∈ fp, H' b = none) → ∀ b ∈ fp, FpOk (XC X scope NC s3.heap.objs.size s3 H3 fp (X.pn ++ pins)) [] H' b := fun hn b hb => by
      obtain ⟨g0, g1, g2, g3, g4, g5⟩ := f3 b hb
      refine ⟨hn b hb, Nat.ne_of_lt (lt3 b hb), ?_, .inl hb, (I4.ok.exf b hb).2, fun p hp => g5 p (by simpa using hp)⟩
      exact I4.ok.exfs b hb
    rcases turn i n acc H5 w5 with ⟨stop, q⟩ | ⟨go, step⟩
    · refine thn (T.done (XC X scope NC s3.heap.objs.size s3 H3 fp (X.pn ++ pins)) rfl rfl rfl hcalm i [] s5 _ H5 (fun _ _ => False) I5' (fpk fr5) st5 stop) fun r s6 ⟨hr, I6⟩ => ?_
      subst hr
      exact fin s6 _ H5 I6 q
    · refine thn (T.item (XC X scope NC s3.heap.objs.size s3 H3 fp (X.pn ++ pins)) rfl rfl rfl hcalm i [] s5 _ H5 (fun _ _ => False) I5' (fpk fr5) st5 go) fun r s6 ⟨u, hr, h6⟩ => ?_
      subst hr
      refine thn h6 fun _ s7 ⟨x, H7, I7, r7, y7, st7, fr7⟩ => ?_
      have I7' := I7.pinned (fpk fr7) (T.obj _ _ st7)
      refine thn (hg _ _ _ _ _ _ s7 _ H7 x u _ I7' r7 (step x H7 y7)) fun _ s8 ⟨σ8, H8, I8, ext8, q8⟩ => ?_
      refine thn (ht _ _ _ _ _ _ s8 σ8 H8 _ I8 q8) fun ok s9 ⟨H9, I9, q9⟩ => ?_
      have again : ∀ {σ' : St} {H' : Hp} {s' : Shared} {acc' : List V} {m' : Nat}, Inv (XC X scope NC s3.heap.objs.size s3 H3 fp (X.pn ++ pins)) ([] ++ pinsAt fp s7.heap) σ' H' s' → Ext (subS mp σ) σ' → m' < n → W (i + 1) m' acc' H' →
          ∃ m, m < n ∧ ∃ i acc σ' H', Inv (XC X scope NC s3.heap.objs.size s3 H3 fp (X.pn ++ pins)) [] σ' H' s' ∧ Ext (subS mp σ) σ' ∧ tn i s'.heap ∧ (∀ b ∈ fp, H' b = none) ∧ W i m acc H' := by
        intro σ' H' s' acc' m' I' hσ' hm' w'
        refine ⟨m', hm', i + 1, acc', σ', H', I'.unpinned, hσ', T.keep _ _ _ st7 fun b hb o e => (I'.pin (b, o) (List.mem_append_right _ (List.mem_append_right _ (mem_pinsAt hb e)))).1, fun b hb => ?_, w'⟩
        obtain ⟨o, e, d⟩ := T.obj _ _ st7 b hb
        exact (I'.pin (b, o) (List.mem_append_right _ (List.mem_append_right _ (mem_pinsAt hb e)))).2.1
      cases ok with
      | false =>
        rw [if_neg Bool.false_ne_true] at q9
        rw [if_neg Bool.false_ne_true]
        obtain ⟨m', hm', w'⟩ := q9
        exact again I9 ext8 hm' w'
      | true =>
        rw [if_pos rfl] at q9
        rw [if_pos rfl]
        refine thn (he _ _ _ _ _ _ s9 σ8 H9 _ I9 q9) fun v s10 ⟨y, H10, I10, r10, hD10, hz, m', hm', w'⟩ => ?_
        refine thn (mt_append (X := XC X scope NC s3.heap.objs.size s3 H3 fp (X.pn ++ pins)) _ s10 σ8 H10 (.ref D) [y] (.ref D) [v] (fun _ H' => H' = upd H10 D (.lst (acc ++ [y]))) I10 rfl (.cons r10 .nil) ⟨D, acc, y, rfl, rfl, hD10, hz, rfl⟩) fun _ s11 ⟨_, H11, I11, _, e11⟩ => ?_
        subst e11
        exact again I11 ext8 hm' w'
  exact codeAny_compStart_list loop (T.self _ 0 _ _ _ st4 loop)
end
end L2
set_option Elab.async false
set_option linter.all false
set_option maxRecDepth 100000
set_option maxHeartbeats 1000000
namespace L2
open PySem PySem.Spec PyProof.Rows
section
variable {X : Cx} {pins : List (Addr × Obj)} {σ : St} {H : Hp} {s : Shared}
theorem Ns_same {h h' : Heap} {a b : Addr} {m : Str → Option Value} (hn : h.Ns a m) (sb : Heap.SameBut b h h') (ne : a ≠ b) : h'.Ns a m := by
  obtain ⟨o, es, ep, ho, r⟩ := hn
  exact ⟨o, es, ep, (sb.2 a ne).trans ho, r⟩
variable {elt target iter : Expr} {ifs : List Expr} {scope : Scope} {NC : List Str} {mp : List (Option Nat)} {pos spos : Pos} {wi : TI} {g : TG} {tc : TT} {te : TE} {i : Nat} {x : Str} {px : Pos}
theorem ps_setC (hcalm : X.calm = true) (hN : X.N.Nodup) (hix : X.N[i]? = some x) (hx : X.env.scope.names.lookup x = some .local) (hsw : swapsWith (.ListComp elt [⟨target, iter, ifs, 0⟩] scope pos) (some (.Name x px)) spos.line X.env = pure true)
    (hi : PI X target iter wi) (hg : ∀ C s H fp pn, PG (XC X scope NC C s H fp pn) target g) (ht : ∀ C s H fp pn, PTs (XC X scope NC C s H fp pn) ifs tc) (he : ∀ C s H fp pn, PE (XC X scope NC C s H fp pn) elt te)
    (hl : mp.length = NC.length := by rfl) (hm : okMap X.N NC mp scope.names X.env.scope.names = true := by rfl) (hc : hasCells scope.names X.env.cells = true := by rfl) (hk : scope.kind = .function := by rfl)
    (hnc : ∀ y ∈ scope.names, y.2 ≠ .cell := by decide +kernel) (hnm : ∀ y ∈ scope.names, y.2 = .local → scope.names.lookup y.1 = some .local := by decide +kernel) (hs : ∀ x, foldedSetIterable iter X.env x = pure x := by intro _; rfl) :
    PS X (.Assign [.Name x px] (.ListComp elt [⟨target, iter, ifs, 0⟩] scope pos) spos) (tAsg (tComp mp wi g tc te) (gName i)) := by
  intro pins s σ H Z I h
  rw [exec_Assign_Name_used _ _ _ _ hsw]
  refine wpAny_bind (wpAny_standAt (wpAny_bind ?_))
  show wpAny _ _ (do let _ ← comprehension (.ListComp elt [⟨target, iter, ifs, 0⟩] scope pos) scope X.env _ (newList []) false (eval iter X.env) (some (assign (.Name x px) X.env))) _ _ s
  refine wpAny_bind (wpAny_mono (wpAny_comprehension_free (use := some (assign (.Name x px) X.env)) (Q := fun _ s' => SP X pins Z .next s') (E := X.xe) rfl hs (clos_eq hc) hk hnm
    (thn (hi pins s σ H _ I h) fun v s1 h1 => thn h1 fun itv s2 h2 => ?_)) (fun _ s' q => wpAny_pure (wpAny_pure q)) fun _ _ e => e)
  obtain ⟨it, fp, tn, J, H2, e, I2, T, st2, f2, W⟩ := h2
  subst e
  refine wpAny_newObj_type ?_ (by show 0 ≤ sizeLine; decide)
  have nD : H2 s2.heap.objs.size = none := I2.hok.fresh (Nat.le_refl _)
  have I3 : Inv X pins σ (upd H2 s2.heap.objs.size (.lst [])) { s2 with heap := s2.heap.push { cls := .type "list", data := .seq ([] : List Value).toArray } } :=
    I2.laid (t' := s2.toks) (fun b u e => Heap.get?_push_of_some _ e) (Nat.le_refl _) ⟨by show 0 ≤ sizeLine; decide, [], 0, .nil, Heap.get?_push_size _ rfl⟩
  obtain ⟨W, ⟨m0, w0⟩, turn⟩ := W _ nD
  have lt2 : ∀ b ∈ fp, b < s2.heap.objs.size := fun b hb => by
    obtain ⟨o, e, _⟩ := T.obj 0 _ st2 b hb
    exact Heap.lt_size e
  have nDf : ∀ b ∈ fp, b ≠ s2.heap.objs.size := fun b hb => Nat.ne_of_lt (lt2 b hb)
  have f3 : ∀ b ∈ fp, FpOk X pins (upd H2 s2.heap.objs.size (.lst [])) b := fun b hb => by
    obtain ⟨g0, g1⟩ := f2 b hb
    exact ⟨by rw [upd_ne (nDf b hb)]; exact g0, g1⟩
  have st3 : tn 0 (s2.heap.push { cls := .type "list", data := .seq ([] : List Value).toArray }) := T.keep 0 _ _ st2 fun b _ o e => Heap.get?_push_of_some _ e
  have lt3 : ∀ b ∈ fp, b < (s2.heap.push { cls := .type "list", data := .seq ([] : List Value).toArray }).objs.size := fun b hb => by
    rw [Heap.size_push]
    exact Nat.lt_succ_of_lt (lt2 b hb)
  generalize hD : s2.heap.objs.size = D at *
  generalize hs3 : ({ s2 with heap := s2.heap.push { cls := .type "list", data := .seq ([] : List Value).toArray } } : Shared) = s3 at *
  have hh3 : s3.heap = s2.heap.push { cls := .type "list", data := .seq ([] : List Value).toArray } := by rw [← hs3]
  rw [← hh3] at st3 lt3
  generalize hH3 : upd H2 D (.lst []) = H3 at *
  refine wpAny_newFunctionEnv (around := some X.env) hnc (by intro y hy; cases hy) (fun h4 hn4 hsb4 => ?_) hk
  have kp4 : ∀ b o, s3.heap.get? b = some o → h4.get? b = some o := fun b o e => hsb4.extBut b o (Nat.ne_of_lt (Heap.lt_size e)) (Heap.get?_push_of_some _ e)
  have I4 := I3.block (tk := s3.toks + ([] : List (Str × Value)).length) f3 lt3 hk hnc hc hl hm kp4 hn4
  have st4 : tn 0 h4 := T.keep 0 _ _ st3 fun b _ o e => kp4 b o e
  have nC : ∀ b o, s3.heap.get? b = some o → b ≠ s3.heap.objs.size := fun b o e => Nat.ne_of_lt (Heap.lt_size e)
  have out : ∀ (s5 : Shared) (σ5 : St) (H5 : Hp) (h6 : Heap), Inv (XC X scope NC s3.heap.objs.size s3 H3 fp (X.pn ++ pins)) [] σ5 H5 s5 → Heap.SameBut s3.heap.objs.size s5.heap h6 → Inv X pins σ H5 { s5 with heap := h6 } := by
    intro s5 σ5 H5 h6 I5 sb6
    have kp6 : ∀ b o, b ≠ s3.heap.objs.size → s5.heap.get? b = some o → h6.get? b = some o := fun b o hb e => sb6.extBut b o hb e
    have un : Un (frs X.stack) fp H3 H5 s3.heap s5.heap := I5.base
    have hfree : H5 s3.heap.objs.size = none := I5.free
    refine I3.call' (s' := { s5 with heap := h6 }) (ch := fp) I5.os ⟨fun b o e n hb hx => kp6 b o (nC b o e) (un.keep b o e n hb hx), fun b o e n hb hx => ?_, un.free, fun b o e hx => ?_, un.tups, un.frzs, un.tbls⟩ ?_ I5.bare (fun b hb => ?_)
    · obtain ⟨sl, e1⟩ := un.slot b o e n hb hx
      exact ⟨sl, kp6 b _ (nC b o e) e1⟩
    · obtain ⟨o', e1⟩ := un.there b o e hx
      exact ⟨o', kp6 b o' (nC b o e) e1⟩
    · intro b o e
      have nb : b ≠ s3.heap.objs.size := fun z => by rw [z, hfree] at e; cases e
      refine (I5.hok b o e).stay (fun c v hc' r => kp6 c v ?_ r) (fun _ r => r) fun _ _ r => r
      rcases hc' with z | z
      · rw [z]; exact nb
      · intro y
        rw [y, hfree] at z
        cases z
    · obtain ⟨g0, g1, g2, g3, g4, g5⟩ := f3 b hb
      exact ⟨g3, g1, g4, g5⟩
  have fin : ∀ (s5 : Shared) (σ5 : St) (H5 : Hp), Inv (XC X scope NC s3.heap.objs.size s3 H3 fp (X.pn ++ pins)) [] σ5 H5 s5 → Z.nx (σ.set i (some (.ref D))) H5 → compPost (model X.prog X.w) X.A X.xe (some (assign (.Name x px) X.env)) (fun _ s' => SP X pins Z .next s') (.ref D) s3.heap.objs.size (.ok .next) s5 := by
    intro s5 σ5 H5 I5 q5
    obtain ⟨m5, hn5, _⟩ := id I5.loc
    have I6 := out s5 σ5 H5 s5.heap I5 (.refl ..)
    have lC : X.env.locals ≠ s3.heap.objs.size := Nat.ne_of_lt I3.lt
    show wpAny _ _ (assign (.Name x px) X.env (.ref D)) _ _ _
    refine wpAny_assign_Name (store_ok2 (X := X) (v := .ref D) I6 hN hix (.inl hx) rfl (fun s7 I7 hch => ?_) (.inr hx))
    obtain ⟨a, sb7, ha⟩ := hch
    have aC : s3.heap.objs.size ≠ a := by
      rcases ha with z | z
      · rw [z]; exact Ne.symm lC
      · obtain ⟨v, oc, q1, _⟩ := I3.cell x a z
        exact Ne.symm (nC a oc q1)
    refine ⟨m5, Ns_same hn5 sb7 aC, fun h8 sb8 => ⟨σ.set i (some (.ref D)), H5, ?_, q5⟩⟩
    have hfree : H5 s3.heap.objs.size = none := I5.free
    have kp8 : ∀ b o, b ≠ s3.heap.objs.size → s7.heap.get? b = some o → h8.get? b = some o := fun b o hb e => sb8.extBut b o hb e
    have s0lt : ∀ b o, X.s₀.heap.get? b = some o → b ≠ s3.heap.objs.size := fun b o e => Nat.ne_of_lt (Nat.lt_of_lt_of_le (Heap.lt_size e) I3.sz)
    refine ⟨I7.ok, I7.os, I7.bare, ⟨fun b o e n hb hx => kp8 b o (s0lt b o e) (I7.base.keep b o e n hb hx), fun b o e n hb hx => ?_, I7.base.free, fun b o e hx => ?_, I7.base.tups, I7.base.frzs, I7.base.tbls⟩, ?_, fun y c e => ?_, I7.free, I7.freeC, fun p hp => ?_, ?_, I7.len⟩
    · obtain ⟨sl, e1⟩ := I7.base.slot b o e n hb hx
      exact ⟨sl, kp8 b _ (s0lt b o e) e1⟩
    · obtain ⟨o', e1⟩ := I7.base.there b o e hx
      exact ⟨o', kp8 b o' (s0lt b o e) e1⟩
    · obtain ⟨m7, hn7, hl7⟩ := I7.loc
      have cellN : ∀ y c, X.env.cells.lookup y = some c → c ≠ s3.heap.objs.size := fun y c e => by
        obtain ⟨v, oc, q1, _⟩ := I3.cell y c e
        exact nC c oc q1
      refine ⟨m7, Ns_same hn7 sb8 lC, fun j y v e1 e2 e3 => ?_⟩
      obtain ⟨u, ru, lk⟩ := hl7 j y v e1 e2 e3
      refine ⟨u, ru, ?_⟩
      rcases lk with lk | ⟨k1, c, k2, k3⟩
      · exact .inl lk
      · exact .inr ⟨k1, c, k2, k3.sameBut sb8 (cellN y c k2)⟩
    · obtain ⟨w', z⟩ := I7.cell y c e
      obtain ⟨v, oc, q1, _⟩ := I3.cell y c e
      exact ⟨w', z.sameBut sb8 (nC c oc q1)⟩
    · obtain ⟨e, n1, n2, n3, n4⟩ := I7.pin p hp
      obtain ⟨e3, _⟩ := I3.pin p hp
      exact ⟨kp8 _ _ (nC _ _ e3) e, n1, n2, n3, n4⟩
    · intro b o e
      have nb : b ≠ s3.heap.objs.size := fun z => by rw [z, hfree] at e; cases e
      refine (I7.hok b o e).stay (fun c v hc' r => kp8 c v ?_ r) (fun _ r => r) fun _ _ r => r
      rcases hc' with z | z
      · rw [z]; exact nb
      · intro y
        rw [y, hfree] at z
        cases z
  have loop : codeAny (model X.prog X.w) X.A (.compLoop (.ListComp elt [⟨target, iter, ifs, 0⟩] scope pos) 0 (.ref it) (.ref D) (compEnvC scope (closOf scope.names X.env.cells []) s3.heap.objs.size X.env)) (compPost (model X.prog X.w) X.A X.xe (some (assign (.Name x px) X.env)) (fun _ s' => SP X pins Z .next s') (.ref D) s3.heap.objs.size)
      { s3 with heap := h4, toks := s3.toks + ([] : List (Str × Value)).length } := by
    refine comp_turns (fun n s' => ∃ i acc σ' H', Inv (XC X scope NC s3.heap.objs.size s3 H3 fp (X.pn ++ pins)) [] σ' H' s' ∧ Ext (subS mp σ) σ' ∧ tn i s'.heap ∧ (∀ b ∈ fp, H' b = none) ∧ W i n acc H') ?_ m0
      ⟨0, [], subS mp σ, H3, I4, fun _ _ e => e, st4, fun b hb => (f3 b hb).1, w0⟩
    rintro n s5 ⟨i, acc, σ5, H5, I5, hσ, st5, fr5, w5⟩
    have I5' : Inv (XC X scope NC s3.heap.objs.size s3 H3 fp (X.pn ++ pins)) [] (subS mp σ) H5 s5 := I5.weak (by rw [I5.len]; unfold subS; rw [List.length_map]; exact hl) hσ
    have fpk : ∀ {H' : Hp}, (∀ b ∈ fp, H' b = none) → ∀ b ∈ fp, FpOk (XC X scope NC s3.heap.objs.size s3 H3 fp (X.pn ++ pins)) [] H' b := fun hn b hb => by
      obtain ⟨g0, g1, g2, g3, g4, g5⟩ := f3 b hb
      refine ⟨hn b hb, Nat.ne_of_lt (lt3 b hb), ?_, .inl hb, (I4.ok.exf b hb).2, fun p hp => g5 p (by simpa using hp)⟩
      exact I4.ok.exfs b hb
    rcases turn i n acc H5 w5 with ⟨stop, q⟩ | ⟨go, step⟩
    · refine thn (T.done (XC X scope NC s3.heap.objs.size s3 H3 fp (X.pn ++ pins)) rfl rfl rfl hcalm i [] s5 _ H5 (fun _ _ => False) I5' (fpk fr5) st5 stop) fun r s6 ⟨hr, I6⟩ => ?_
      subst hr
      exact fin s6 _ H5 I6 q
    · refine thn (T.item (XC X scope NC s3.heap.objs.size s3 H3 fp (X.pn ++ pins)) rfl rfl rfl hcalm i [] s5 _ H5 (fun _ _ => False) I5' (fpk fr5) st5 go) fun r s6 ⟨u, hr, h6⟩ => ?_
      subst hr
      refine thn h6 fun _ s7 ⟨x, H7, I7, r7, y7, st7, fr7⟩ => ?_
      have I7' := I7.pinned (fpk fr7) (T.obj _ _ st7)
      refine thn (hg _ _ _ _ _ _ s7 _ H7 x u _ I7' r7 (step x H7 y7)) fun _ s8 ⟨σ8, H8, I8, ext8, q8⟩ => ?_
      refine thn (ht _ _ _ _ _ _ s8 σ8 H8 _ I8 q8) fun ok s9 ⟨H9, I9, q9⟩ => ?_
      have again : ∀ {σ' : St} {H' : Hp} {s' : Shared} {acc' : List V} {m' : Nat}, Inv (XC X scope NC s3.heap.objs.size s3 H3 fp (X.pn ++ pins)) ([] ++ pinsAt fp s7.heap) σ' H' s' → Ext (subS mp σ) σ' → m' < n → W (i + 1) m' acc' H' →
          ∃ m, m < n ∧ ∃ i acc σ' H', Inv (XC X scope NC s3.heap.objs.size s3 H3 fp (X.pn ++ pins)) [] σ' H' s' ∧ Ext (subS mp σ) σ' ∧ tn i s'.heap ∧ (∀ b ∈ fp, H' b = none) ∧ W i m acc H' := by
        intro σ' H' s' acc' m' I' hσ' hm' w'
        refine ⟨m', hm', i + 1, acc', σ', H', I'.unpinned, hσ', T.keep _ _ _ st7 fun b hb o e => (I'.pin (b, o) (List.mem_append_right _ (List.mem_append_right _ (mem_pinsAt hb e)))).1, fun b hb => ?_, w'⟩
        obtain ⟨o, e, d⟩ := T.obj _ _ st7 b hb
        exact (I'.pin (b, o) (List.mem_append_right _ (List.mem_append_right _ (mem_pinsAt hb e)))).2.1
      cases ok with
      | false =>
        rw [if_neg Bool.false_ne_true] at q9
        rw [if_neg Bool.false_ne_true]
        obtain ⟨m', hm', w'⟩ := q9
        exact again I9 ext8 hm' w'
      | true =>
        rw [if_pos rfl] at q9
        rw [if_pos rfl]
        refine thn (he _ _ _ _ _ _ s9 σ8 H9 _ I9 q9) fun v s10 ⟨y, H10, I10, r10, hD10, hz, m', hm', w'⟩ => ?_
        refine thn (mt_append (X := XC X scope NC s3.heap.objs.size s3 H3 fp (X.pn ++ pins)) _ s10 σ8 H10 (.ref D) [y] (.ref D) [v] (fun _ H' => H' = upd H10 D (.lst (acc ++ [y]))) I10 rfl (.cons r10 .nil) ⟨D, acc, y, rfl, rfl, hD10, hz, rfl⟩) fun _ s11 ⟨_, H11, I11, _, e11⟩ => ?_
        subst e11
        exact again I11 ext8 hm' w'
  exact codeAny_compStart_list loop (T.self _ 0 _ _ _ st4 loop)
end
end L2
set_option Elab.async false
set_option linter.all false
set_option maxRecDepth 100000
set_option maxHeartbeats 4000000
namespace L2
open PySem PySem.Spec PyProof.Rows
section
variable {κ : Type} [DecidableEq κ]
def valV (kvs : List (κ × V)) (k : κ) : Option V := (kvs.find? fun kv => decide (kv.1 = k)).map (·.2)
def putK (kvs : List (κ × V)) (k : κ) (v : V) : List (κ × V) :=
  if (kvs.any fun kv => decide (kv.1 = k)) = true then kvs.map (fun kv => if kv.1 = k then (kv.1, v) else kv) else kvs ++ [(k, v)]
def dropK (kvs : List (κ × V)) (k : κ) : List (κ × V) := kvs.filter fun kv => decide (kv.1 ≠ k)

theorem valV_pos {p : κ × V} {r : List (κ × V)} {k : κ} (e : p.1 = k) : valV (p :: r) k = some p.2 := by simp [valV, List.find?_cons, e]
theorem valV_neg {p : κ × V} {r : List (κ × V)} {k : κ} (e : ¬ p.1 = k) : valV (p :: r) k = valV r k := by simp [valV, List.find?_cons, e]
theorem valV_any (k : κ) : ∀ kvs : List (κ × V), (kvs.any fun kv => decide (kv.1 = k)) = (valV kvs k).isSome
  | [] => rfl
  | p :: r => by
    rw [List.any_cons]
    by_cases e : p.1 = k
    · simp only [valV_pos e, decide_eq_true e, Bool.true_or, Option.isSome_some]
    · rw [valV_neg e, decide_eq_false e, Bool.false_or]; exact valV_any k r
theorem length_putK (kvs : List (κ × V)) (k : κ) (v : V) : (putK kvs k v).length ≤ kvs.length + 1 := by
  unfold putK
  split
  · rw [List.length_map]; omega
  · rw [List.length_append, List.length_cons, List.length_nil]; omega
theorem putK_new {kvs : List (κ × V)} {k : κ} (v : V) (h : valV kvs k = none) : putK kvs k v = kvs ++ [(k, v)] := by
  unfold putK
  rw [valV_any, h]
  exact if_neg (by decide)

theorem RelO.isSome_eq {o : Option V} {u : Option Value} (r : RelO o u) : o.isSome = u.isSome := by
  cases o with
  | none => cases u with
    | none => rfl
    | some _ => exact (show False from r).elim
  | some _ => cases u with
    | none => exact (show False from r).elim
    | some _ => rfl
theorem RelO.getD {o : Option V} {u : Option Value} {d : V} {d' : Value} (r : RelO o u) (rd : RelV d d') : RelV (o.getD d) (u.getD d') := by
  cases o with
  | none => cases u with
    | none => exact rd
    | some _ => exact (show False from r).elim
  | some _ => cases u with
    | none => exact (show False from r).elim
    | some _ => exact r

theorem KV.val {kvs : List (κ × V)} {vs : List (κ × Value)} (r : KV kvs vs) (k : κ) : RelO (valV kvs k) (valueAt vs k) := by
  unfold KV at r
  induction r with
  | nil => exact True.intro
  | @cons p q ps qs h t ih =>
    obtain ⟨h1, h2⟩ := h
    by_cases e : p.1 = k
    · have e' : q.1 = k := h1.symm.trans e
      have b : valueAt (q :: qs) k = some q.2 := by simp [valueAt, List.find?_cons, e']
      rw [valV_pos e, b]; exact h2
    · have e' : ¬ q.1 = k := fun z => e (h1.trans z)
      have b : valueAt (q :: qs) k = valueAt qs k := by simp [valueAt, List.find?_cons, e']
      rw [valV_neg e, b]; exact ih
theorem KV.any {kvs : List (κ × V)} {vs : List (κ × Value)} (r : KV kvs vs) (k : κ) : (kvs.any fun kv => decide (kv.1 = k)) = vs.any fun kv => decide (kv.1 = k) := by
  unfold KV at r
  induction r with
  | nil => rfl
  | cons h t ih => rw [List.any_cons, List.any_cons, ih, h.1]
theorem KV.repl {kvs : List (κ × V)} {vs : List (κ × Value)} (r : KV kvs vs) (k : κ) {y : V} {u : Value} (ry : RelV y u) :
    KV (kvs.map fun kv => if kv.1 = k then (kv.1, y) else kv) (vs.map fun kv => if kv.1 = k then (kv.1, u) else kv) := by
  unfold KV at r ⊢
  induction r with
  | nil => exact .nil
  | @cons p q ps qs h t ih =>
    rw [List.map_cons, List.map_cons]
    refine .cons ?_ ih
    obtain ⟨h1, h2⟩ := h
    by_cases e : p.1 = k
    · rw [if_pos e, if_pos (h1.symm.trans e)]; exact ⟨h1, ry⟩
    · rw [if_neg e, if_neg (fun z => e (h1.trans z))]; exact ⟨h1, h2⟩
theorem KV.put {kvs : List (κ × V)} {vs : List (κ × Value)} (r : KV kvs vs) (k : κ) {y : V} {u : Value} (ry : RelV y u) : KV (putK kvs k y) (stored vs k u) := by
  unfold putK stored
  rw [r.any k]
  by_cases e : (vs.any fun kv => decide (kv.1 = k)) = true
  · rw [if_pos e, if_pos e]; exact r.repl k ry
  · rw [if_neg e, if_neg e]; exact Paired.snoc r ⟨rfl, ry⟩
theorem KV.drop {kvs : List (κ × V)} {vs : List (κ × Value)} (r : KV kvs vs) (k : κ) : KV (dropK kvs k) (without vs k) := by
  unfold KV at r ⊢
  unfold dropK without
  induction r with
  | nil => exact .nil
  | @cons p q ps qs h t ih =>
    obtain ⟨h1, h2⟩ := h
    rw [List.filter_cons, List.filter_cons]
    by_cases e : p.1 = k
    · have a : ¬ decide (p.1 ≠ k) = true := by simp [e]
      have b : ¬ decide (q.1 ≠ k) = true := by simp [h1.symm.trans e]
      rw [if_neg a, if_neg b]; exact ih
    · have e' : ¬ q.1 = k := fun z => e (h1.trans z)
      have a : decide (p.1 ≠ k) = true := by simp [e]
      have b : decide (q.1 ≠ k) = true := by simp [e']
      rw [if_pos a, if_pos b]; exact .cons ⟨h1, h2⟩ ih
theorem KV.keys {kvs : List (κ × V)} {vs : List (κ × Value)} (r : KV kvs vs) : kvs.map (·.1) = vs.map (·.1) := by
  unfold KV at r
  induction r with
  | nil => rfl
  | cons h t ih => rw [List.map_cons, List.map_cons, ih, h.1]
theorem KV.length {kvs : List (κ × V)} {vs : List (κ × Value)} (r : KV kvs vs) : kvs.length = vs.length := Paired.length r
end
theorem kV_is {P : Program} {w : World} {k : Key} {u : Value} (r : RelV (kV k) u) : (mixKind P w).is k u = true := by
  cases k with
  | inl i => obtain ⟨t, e⟩ := (show ∃ t, u = Value.int i t from r); subst e; exact mixKind_int P w i t
  | inr x => obtain ⟨t, e⟩ := (show ∃ t, u = Value.str x t from r); subst e; exact mixKind_str P w x t
theorem items_are {P : Program} {w : World} : ∀ {ks : List Key} {us : List Value}, Vals (ks.map kV) us → ItemsAre (mixKind P w) ks us
  | [], _, r => by rw [List.map_nil] at r; cases r; exact .nil
  | k :: ks, _, r => by
    rw [List.map_cons] at r
    cases r with
    | cons h t => exact .cons (kV_is h) (items_are t)

abbrev KT (H : Hp) : List (List Key × V) → List (List Key × Addr × Value) → Prop := Paired fun p q => p.1 = q.1 ∧ H q.2.1 = some (.tup (p.1.map kV)) ∧ RelV p.2 q.2.2
theorem KT.val {H : Hp} {kvs : List (List Key × V)} {xs : List (List Key × Addr × Value)} (r : KT H kvs xs) (k : List Key) : RelO (valV kvs k) ((atKey xs k).map (·.2)) := by
  induction r with
  | nil => exact True.intro
  | @cons p q ps qs h t ih =>
    obtain ⟨h1, _, h2⟩ := h
    by_cases e : p.1 = k
    · have e' : q.1 = k := h1.symm.trans e
      have b : atKey (q :: qs) k = some q.2 := by simp [atKey, List.find?_cons, e']
      rw [valV_pos e, b]; exact h2
    · have e' : ¬ q.1 = k := fun z => e (h1.trans z)
      have b : atKey (q :: qs) k = atKey qs k := by simp [atKey, List.find?_cons, e']
      rw [valV_neg e, b]; exact ih
theorem KT.repl {H : Hp} {kvs : List (List Key × V)} {xs : List (List Key × Addr × Value)} (r : KT H kvs xs) (k : List Key) {y : V} {u : Value} (ry : RelV y u) :
    KT H (kvs.map fun kv => if kv.1 = k then (kv.1, y) else kv) (xs.map (putAt k u)) := by
  induction r with
  | nil => exact .nil
  | @cons p q ps qs h t ih =>
    rw [List.map_cons, List.map_cons]
    refine .cons ?_ ih
    obtain ⟨h1, h2, h3⟩ := h
    unfold putAt
    by_cases e : p.1 = k
    · rw [if_pos e, if_pos (h1.symm.trans e)]; exact ⟨h1, h2, ry⟩
    · rw [if_neg e, if_neg (fun z => e (h1.trans z))]; exact ⟨h1, h2, h3⟩
theorem KT.put {H : Hp} {kvs : List (List Key × V)} {xs : List (List Key × Addr × Value)} (r : KT H kvs xs) (k : List Key) {b : Addr} {y : V} {u : Value} (hb : H b = some (.tup (k.map kV))) (ry : RelV y u) :
    KT H (putK kvs k y) (storedH xs k b u) := by
  have e : (kvs.any fun kv => decide (kv.1 = k)) = (atKey xs k).isSome := by
    rw [valV_any, (r.val k).isSome_eq, Option.isSome_map]
  unfold putK storedH
  rw [e]
  by_cases q : (atKey xs k).isSome = true
  · rw [if_pos q, if_pos q]; exact r.repl k ry
  · rw [if_neg q, if_neg q]; exact Paired.snoc r ⟨rfl, hb, ry⟩
theorem KT.keeps {H H' : Hp} {kvs : List (List Key × V)} {xs : List (List Key × Addr × Value)} (r : KT H kvs xs) (ht : ∀ b ys, H b = some (.tup ys) → H' b = some (.tup ys)) : KT H' kvs xs :=
  Paired.mapP r fun _ _ z => ⟨z.1, ht _ _ z.2.1, z.2.2⟩

section
variable {P : Program} {w : World} {H : Hp} {h : Heap} {a : Addr}
theorem rd_of {u : HO} (ok : HOk P w H h) (e : Rd H a u) : ObjOk P w H h a u := e.ok ok
theorem dk_rd {kvs : List (Key × V)} (ok : HOk P w H h) (e : Rd H a (.dK kvs)) : kvs.length ≤ sizeLine ∧ (a == sysModules) = false ∧ ∃ vs, KV kvs vs ∧ h.DictOf (mixKind P w) a vs :=
  show ObjOk P w H h a (.dK kvs) from rd_of ok e
theorem dk_of {kvs : List (Key × V)} (ok : HOk P w H h) (e : H a = some (.dK kvs)) : kvs.length ≤ sizeLine ∧ (a == sysModules) = false ∧ ∃ vs, KV kvs vs ∧ h.DictOf (mixKind P w) a vs := dk_rd ok (.inl e)
theorem key_of {ks : List Key} (ok : HOk P w H h) (e : H a = some (.tup (ks.map kV))) : (tupleKind (mixKind P w)).is h ks a := by
  obtain ⟨_, its, r, o, h1, h2, n, h3⟩ := (show ObjOk P w H h a (.tup (ks.map kV)) from ok a _ e)
  exact ⟨o, its.toArray, n, h1, h2, h3, by simpa using items_are r⟩
theorem dt_rd {kvs : List (List Key × V)} (ok : HOk P w H h) (e : Rd H a (.dT kvs)) : kvs.length ≤ sizeLine ∧ (a == sysModules) = false ∧
    ∃ xs, KT H kvs xs ∧ h.DictOfH (tupleKind (mixKind P w)) a xs := by
  obtain ⟨z, y, xs, r, o, es, ep, h1, h2, h3, h4, h5⟩ := (show ObjOk P w H h a (.dT kvs) from rd_of ok e)
  refine ⟨z, y, xs, r, o, es, ep, h1, h2, h3, h4, fun x hx => ?_, h5⟩
  have all : ∀ {l : List (List Key × V)} {m : List (List Key × Addr × Value)}, KT H l m → ∀ x ∈ m, (tupleKind (mixKind P w)).is h x.1 x.2.1 := by
    intro l m q
    induction q with
    | nil => intro x hx; exact nomatch hx
    | @cons p q ps qs hq t ih =>
      intro x hx
      rcases List.mem_cons.mp hx with e | hx
      · subst e
        exact key_of ok (by rw [← hq.1]; exact hq.2.1)
      · exact ih x hx
  exact all r x hx
theorem dt_of {kvs : List (List Key × V)} (ok : HOk P w H h) (e : H a = some (.dT kvs)) : kvs.length ≤ sizeLine ∧ (a == sysModules) = false ∧
    ∃ xs, KT H kvs xs ∧ h.DictOfH (tupleKind (mixKind P w)) a xs := dt_rd ok (.inl e)
end
def DGet (H : Hp) (a : Addr) (y : V) (r : Option V) : Prop :=
  (∃ kvs k, Rd H a (.dK kvs) ∧ y = kV k ∧ r = valV kvs k) ∨ ∃ kvs k b, Rd H a (.dT kvs) ∧ y = .ref b ∧ H b = some (.tup (k.map kV)) ∧ r = valV kvs k
def DPut (H : Hp) (a : Addr) (y v : V) (H' : Hp) : Prop :=
  (∃ kvs k, H a = some (.dK kvs) ∧ y = kV k ∧ kvs.length < sizeLine ∧ H' = upd H a (.dK (putK kvs k v))) ∨
  ∃ kvs k b, H a = some (.dT kvs) ∧ y = .ref b ∧ H b = some (.tup (k.map kV)) ∧ kvs.length < sizeLine ∧ H' = upd H a (.dT (putK kvs k v))
theorem DGet.k {H : Hp} {a : Addr} {kvs : List (Key × V)} {k : Key} (e : H a = some (.dK kvs)) : DGet H a (kV k) (valV kvs k) := .inl ⟨kvs, k, .inl e, rfl, rfl⟩
theorem DGet.t {H : Hp} {a b : Addr} {kvs : List (List Key × V)} {k : List Key} (e : H a = some (.dT kvs)) (eb : H b = some (.tup (k.map kV))) : DGet H a (.ref b) (valV kvs k) := .inr ⟨kvs, k, b, .inl e, rfl, eb, rfl⟩
theorem DPut.k {H : Hp} {a : Addr} {kvs : List (Key × V)} {k : Key} {v : V} (e : H a = some (.dK kvs)) (hl : kvs.length < sizeLine) : DPut H a (kV k) v (upd H a (.dK (putK kvs k v))) := .inl ⟨kvs, k, e, rfl, hl, rfl⟩
theorem DPut.t {H : Hp} {a b : Addr} {kvs : List (List Key × V)} {k : List Key} {v : V} (e : H a = some (.dT kvs)) (eb : H b = some (.tup (k.map kV))) (hl : kvs.length < sizeLine) :
    DPut H a (.ref b) v (upd H a (.dT (putK kvs k v))) := .inr ⟨kvs, k, b, e, rfl, eb, hl, rfl⟩


section
variable {X : Cx} {pins : List (Addr × Obj)} {σ : St} {H : Hp} {s : Shared} {a : Addr} {y v : V} {u r : Value} {o : Option V} {A : Around} {E : Value → Shared → Prop}
theorem Inv.big (I : Inv X pins σ H s) : sysModules < s.heap.objs.size := by
  have h : mainGlobals < s.heap.objs.size := (I.mod.glob.keeps I.bk).lt
  exact Nat.lt_trans (by decide) h

theorem d_notIn {Q : Value → Shared → Prop} (hu : A.units + 1 < cLine) (I : Inv X pins σ H s) (g : DGet H a y o) (ry : RelV y u) (h : ∀ s', Inv X pins σ H s' → Q (.bool (!o.isSome)) s') :
    wpAny (model X.prog X.w) A (compareOp .NotIn u (.ref a)) Q E s := by
  rcases g with ⟨kvs, k, e, ey, l⟩ | ⟨kvs, k, b, e, ey, eb, l⟩
  · subst ey
    obtain ⟨z, hd, vs, rel, dd⟩ := dk_rd I.hok e
    refine wpAny_notIn_of (kV_is ry) hd dd.mapOf ?_
    rw [← (rel.val k).isSome_eq, ← l]
    exact h _ (I.tok _)
  · subst ey
    cases (show u = Value.ref b from ry)
    obtain ⟨z, hd, xs, rel, dd⟩ := dt_rd I.hok e
    refine wpAny_notIn_heap (tupleKind_room_in1 hu) (key_of I.hok eb) hd dd ?_
    have q := (rel.val k).isSome_eq
    rw [Option.isSome_map] at q
    rw [← q, ← l]
    exact h _ (I.tok _)
theorem d_write {h' : Heap} {t' : Nat} {ob : HO} (I : Inv X pins σ H s) (mu : Mut (H a)) (hs : Heap.SameBut a s.heap h') (he : ∃ q, h'.get? a = some q) (new : ObjOk X.prog X.w (upd H a ob) h' a ob) :
    Inv X pins σ (upd H a ob) { s with heap := h', toks := t' } :=
  I.write (x := a) (e := a) mu (.inl rfl) (fun b q hb z => (hs.2 b hb).trans z) he new
theorem dk_new {P : Program} {w : World} {H' : Hp} {h' : Heap} {kvs : List (Key × V)} {vs : List (Key × Value)} (z : kvs.length ≤ sizeLine) (hd : (a == sysModules) = false) (rel : KV kvs vs) (dd : h'.DictOf (mixKind P w) a vs) :
    ObjOk P w H' h' a (.dK kvs) := ⟨z, hd, vs, rel, dd⟩
theorem d_setItem {H' : Hp} {Q : Unit → Shared → Prop} (hu : A.units + 1 < cLine) (I : Inv X pins σ H s) (g : DPut H a y v H') (ry : RelV y u) (rv : RelV v r) (h : ∀ s', Inv X pins σ H' s' → Q () s') :
    wpAny (model X.prog X.w) A (setItem (.ref a) u r) Q E s := by
  rcases g with ⟨kvs, k, e, ey, l, eH⟩ | ⟨kvs, k, b, e, ey, eb, l, eH⟩
  · subst ey eH
    obtain ⟨z, hd, vs, rel, dd⟩ := dk_of I.hok e
    have hz : vs.length ≤ sizeLine := by rw [← rel.length]; exact z
    have hl : (putK kvs k v).length ≤ sizeLine := by have := length_putK kvs k v; omega
    refine wpAny_setItem_pairs (hsz := hz) (kV_is ry) dd fun h' dd' hs => h _ ?_
    have he : ∃ q, h'.get? a = some q := let ⟨q, _, _, hq, _⟩ := dd'; ⟨q, hq⟩
    exact d_write I (by rw [e]; exact True.intro) hs he (dk_new hl hd (rel.put k rv) dd')
  · subst ey eH
    cases (show u = Value.ref b from ry)
    obtain ⟨z, hd, xs, rel, dd⟩ := dt_of I.hok e
    have hz : xs.length ≤ sizeLine := by rw [← Paired.length rel]; exact z
    have hl : (putK kvs k v).length ≤ sizeLine := by have := length_putK kvs k v; omega
    refine wpAny_setItem_heap (hsz := hz) (tupleKind_room_in1 hu) (key_of I.hok eb) dd fun h' dd' hs => h _ ?_
    obtain ⟨q, es, ep, hq, h2, h3, h4, _, h5⟩ := dd'
    refine d_write I (by rw [e]; exact True.intro) hs ⟨q, hq⟩ ⟨hl, hd, _, (rel.put k eb rv).keeps fun c ys ec => ?_, q, es, ep, hq, h2, h3, h4, h5⟩
    rw [upd_ne (ne_of ec e (fun z => nomatch z))]
    exact ec
end
section
variable {X : Cx} {pins : List (Addr × Obj)} {σ : St} {H : Hp} {s : Shared} {a : Addr} {kvs : List (Key × V)} {k : Key} {u : Value} {A : Around} {E : Value → Shared → Prop}
end
def tDNotIn (ty td : TE) : TE := fun σ H Q => ty σ H fun y H1 => td σ H1 fun x H2 => ∃ a o, x = .ref a ∧ DGet H2 a y o ∧ Q (.bl (!o.isSome)) H2
def sDPut (td ty tv : TE) : TS := fun D σ H => tv σ H fun v H1 => td σ H1 fun x H2 => ty σ H2 fun y H3 => ∃ a H4, x = .ref a ∧ DPut H3 a y v H4 ∧ D.nx σ H4
section
variable {X : Cx} {o i e value : Expr} {pos pos' tpos : Pos} {td ty tv : TE}
theorem pc_dnotin (hu : X.A.units + 1 < cLine) (hi : PE X i ty) (ho : PE X o td) : PC X .NotIn i o (tDNotIn ty td) := by
  intro pins s σ H Q I h
  refine thn (hi pins s σ H _ I h) fun iv s1 ⟨y, H1, I1, ry, q1⟩ => thn (ho pins s1 σ H1 _ I1 q1) fun u s2 ⟨x, H2, I2, rx, a, ov, ex, g, q2⟩ => ?_
  subst ex
  obtain rfl : u = Value.ref a := rx
  exact d_notIn hu I2 g ry fun s3 I3 => ⟨.bl (!ov.isSome), H2, I3, rfl, q2⟩
theorem ps_dput (hu : X.A.units + 1 < cLine) (ho : PE X o td) (hi : PE X i ty) (hv : PE X value tv) (hs : swapsWith value (some (.Subscript o i pos')) pos.line X.env = pure false) :
    PS X (.Assign [.Subscript o i pos'] value pos) (sDPut td ty tv) := by
  intro pins s σ H D I h
  refine wpAny_Assign_Subscript (thn (hv pins s σ H _ I h) fun r s1 ⟨v, H1, I1, rv, q1⟩ => thn (ho pins s1 σ H1 _ I1 q1) fun u s2 ⟨x, H2, I2, rx, q2⟩ => thn (hi pins s2 σ H2 _ I2 q2) fun iv s3 ⟨y, H3, I3, ry, a, H4, ex, g, q3⟩ => ?_) hs
  subst ex
  obtain rfl : u = Value.ref a := rx
  exact d_setItem hu I3 g ry rv fun s4 I4 => ⟨σ, H4, I4, q3⟩
end
theorem dk_empty {P : Program} {w : World} {H : Hp} (h : Heap) (hb : sysModules < h.objs.size) : ObjOk P w H (h.push { cls := .type "dict", data := .dict #[] }) h.objs.size (.dK []) :=
  ⟨Nat.zero_le _, beq_eq_false_iff_ne.mpr (Ne.symm (Nat.ne_of_lt hb)), [], .nil, Heap.DictOf.new h⟩
def tDNewK : TE := fun _ H Q => ∀ p, H p = none → Q (.ref p) (upd H p (.dK []))
section
variable {X : Cx} {pos : Pos}
theorem pe_dnewK : PE X (.Dict [] [] pos) tDNewK := fun pins s σ H Q I h =>
  wpAny_Dict_empty ⟨.ref s.heap.objs.size, _, I.laid (a := s.heap.objs.size) (o := .dK []) (t' := s.toks) (fun _ _ q => Heap.get?_push_of_some _ q) (Nat.le_refl _) (dk_empty s.heap I.big), rfl, h _ (I.hok.fresh (Nat.le_refl _))⟩
end
section
variable {X : Cx} {pins : List (Addr × Obj)} {σ : St} {H : Hp} {s : Shared} {a : Addr} {y d : V} {u r : Value} {o : Option V} {A : Around} {E : Value → Shared → Prop}
end
section
variable {X : Cx} {o e f : Expr} {apos cpos : Pos} {td ty tx : TE}
end
section
variable {X : Cx} {pins : List (Addr × Obj)} {σ : St} {H : Hp} {s : Shared} {a : Addr} {kvs : List (Key × V)} {A : Around} {E : Value → Shared → Prop}
end
section
variable {X : Cx} {pins : List (Addr × Obj)} {σ : St} {H : Hp} {s : Shared} {a : Addr} {y : V} {u : Value} {A : Around} {E : Value → Shared → Prop}
end
end L2
set_option Elab.async false
set_option linter.all false
set_option maxRecDepth 100000
set_option maxHeartbeats 1000000
namespace L2
open PySem PySem.Spec PyProof.Rows
def CompW (J : It) (D : Addr) (te : TE) (rest : L2.St) (Q : VK) (H1 : Hp) : Prop :=
  ∃ W : Nat → Nat → List V → Hp → Prop, (∃ m, W 0 m [] (upd H1 D (.lst []))) ∧ ∀ i m acc H2, W i m acc H2 →
    (J.stop i H2 ∧ Q (.ref D) H2) ∨
    (J.go i H2 ∧ ∀ x H3, J.yld i H2 x H3 → gName 0 x (none :: rest) H3 fun σ4 H4 => Ext (none :: rest) σ4 ∧ tNoTest σ4 H4 fun b H5 => if b = true then te σ4 H5 fun v H6 => H6 D = some (.lst acc) ∧ acc.length < sizeLine ∧ ∃ m', m' < m ∧ W (i + 1) m' (acc ++ [v]) (upd H6 D (.lst (acc ++ [v])))
      else ∃ m', m' < m ∧ W (i + 1) m' acc H5)
theorem tcomp_of {mp : List (Option Nat)} {wi : TI} {te : TE} {σ rest : L2.St} {H : Hp} {Q : VK} (e : subS mp σ = none :: rest) (h : wi σ H fun J H1 => ∀ D, H1 D = none → CompW J D te rest Q H1) : tComp mp wi (gName 0) tNoTest te σ H Q := by
  unfold tComp
  rw [e]
  exact h
theorem tset_of {mp : List (Option Nat)} {wi : TI} {te : TE} {u : TS} {Z : Ends} {i : Nat} {σ rest : L2.St} {H : Hp} (e : subS mp σ = none :: rest) (h : wi σ H fun J H1 => ∀ D, H1 D = none → CompW J D te rest (fun x H2 => gName i x σ H2 (u Z)) H1) :
    tSeq (tAsg (tComp mp wi (gName 0) tNoTest te) (gName i)) u Z σ H := tcomp_of e h
def CompN (n i : Nat) (D : Addr) (acc : List V) (Pv : Nat → List V → Hp → Prop) : VK := fun v H6 => H6 D = some (.lst acc) ∧ acc.length < sizeLine ∧ ∃ m', m' < n - i ∧ (m' = n - (i + 1) ∧ i + 1 ≤ n ∧ Pv (i + 1) (acc ++ [v]) (upd H6 D (.lst (acc ++ [v]))))
theorem CompN.mk {n i : Nat} {D : Addr} {acc : List V} {Pv : Nat → List V → Hp → Prop} {v : V} {H6 : Hp} (hi : i < n) (hl : acc.length < sizeLine) (h1 : H6 D = some (.lst acc)) (h2 : Pv (i + 1) (acc ++ [v]) (upd H6 D (.lst (acc ++ [v])))) : CompN n i D acc Pv v H6 :=
  ⟨h1, hl, n - (i + 1), by omega, rfl, hi, h2⟩
theorem comp_go {J : It} {D : Addr} {te : TE} {rest : L2.St} {Q : VK} {H1 : Hp} (n : Nat) (Pv : Nat → List V → Hp → Prop) (h0 : Pv 0 [] (upd H1 D (.lst [])))
    (hgo : ∀ i acc H, i < n → Pv i acc H → J.go i H)
    (hs : ∀ i x acc H H', i < n → Pv i acc H → J.yld i H x H' → te (some x :: rest) H' (CompN n i D acc Pv))
    (hd : ∀ acc H, Pv n acc H → J.stop n H ∧ Q (.ref D) H) : CompW J D te rest Q H1 := by
  refine ⟨fun i m acc H => m = n - i ∧ i ≤ n ∧ Pv i acc H, ⟨n, by simp, Nat.zero_le _, h0⟩, ?_⟩
  rintro i m acc H ⟨rfl, hi, p⟩
  by_cases hlt : i < n
  · refine .inr ⟨hgo i acc H hlt p, fun x H' y => ?_⟩
    refine ⟨ext1, ?_⟩
    show (if true = true then te (some x :: rest) H' (CompN n i D acc Pv) else ∃ m', m' < n - i ∧ (m' = n - (i + 1) ∧ i + 1 ≤ n ∧ Pv (i + 1) acc H'))
    exact iteT (hs i x acc H H' hlt p y)
  · have e : i = n := by omega
    subst e
    exact .inl (hd acc H p)
theorem comp_tup {K : PySem.W.Frag} {a D : Addr} {xs : List V} {te : TE} {rest : L2.St} {Q : VK} {H1 : Hp} (Pv : Nat → List V → Hp → Prop) (h0 : Pv 0 [] (upd H1 D (.lst [])))
    (hl : ∀ i acc H, Pv i acc H → SqT K H a xs)
    (hs : ∀ i x acc H, i < xs.length → xs[i]? = some x → Pv i acc H → te (some x :: rest) H (CompN xs.length i D acc Pv))
    (hd : ∀ acc H, Pv xs.length acc H → Q (.ref D) H) : CompW (Itt K a) D te rest Q H1 := by
  refine comp_go xs.length Pv h0 (fun i acc H hi p => ⟨xs, xs[i], hl i acc H p, by simp [hi]⟩) (fun i x acc H H' hi p y => ?_) fun acc H p => ⟨⟨xs, hl _ acc H p, Nat.le_refl _⟩, hd acc H p⟩
  obtain ⟨e, y⟩ := y
  subst e
  exact hs i x acc _ hi (y xs (hl i acc _ p)) p
theorem comp_list {K : PySem.W.Frag} {a D : Addr} {xs : List V} {te : TE} {rest : L2.St} {Q : VK} {H1 : Hp} (Pv : Nat → List V → Hp → Prop) (h0 : Pv 0 [] (upd H1 D (.lst [])))
    (hl : ∀ i acc H, Pv i acc H → SqL K H a xs)
    (hs : ∀ i x acc H, i < xs.length → xs[i]? = some x → Pv i acc H → te (some x :: rest) H (CompN xs.length i D acc Pv))
    (hd : ∀ acc H, Pv xs.length acc H → Q (.ref D) H) : CompW (Itl K a) D te rest Q H1 := by
  refine comp_go xs.length Pv h0 (fun i acc H hi p => ⟨xs, xs[i], hl i acc H p, by simp [hi]⟩) (fun i x acc H H' hi p y => ?_) fun acc H p => ⟨⟨xs, hl _ acc H p, Nat.le_refl _⟩, hd acc H p⟩
  obtain ⟨e, y⟩ := y
  subst e
  exact hs i x acc _ hi (y xs (hl i acc _ p)) p
theorem comp_range {n : Nat} {D : Addr} {te : TE} {rest : L2.St} {Q : VK} {H1 : Hp} (Pv : Nat → List V → Hp → Prop) (h0 : Pv 0 [] (upd H1 D (.lst [])))
    (hs : ∀ (i : Nat) acc H, i < n → Pv i acc H → te (some (.int (0 + (i : Int))) :: rest) H (CompN n i D acc Pv))
    (hd : ∀ acc H, Pv n acc H → Q (.ref D) H) : CompW (Itr 0 n) D te rest Q H1 := by
  refine comp_go n Pv h0 (fun i acc H hi p => hi) (fun i x acc H H' hi p y => ?_) fun acc H p => ⟨Nat.le_refl _, hd acc H p⟩
  obtain ⟨e, y⟩ := y
  subst e y
  exact hs i acc _ hi p
end L2
set_option Elab.async false
set_option linter.all false
set_option maxRecDepth 100000
set_option maxHeartbeats 1000000
namespace L2
open PySem PySem.Spec PyProof.Rows
section
variable {X : Cx}
theorem strsAre_of : ∀ {ys : List Str} {us : List Value}, Vals (ys.map V.str) us → StrsAre us ys
  | [], _, r => by cases r; exact .nil
  | y :: ys, _, r => by
    rw [List.map_cons] at r
    cases r with
    | cons r1 r2 =>
      obtain ⟨t, rfl⟩ := r1
      exact .cons y t (strsAre_of r2)
def rJoin (K : PySem.W.Frag) : V → List V → Hp → VK → Prop := fun x vs H Q => ∃ (sep : Str) (l : Addr) (ys : List Str), x = .str sep ∧ vs = [.ref l] ∧ SqL K H l (ys.map V.str) ∧ (ys.map (·.length)).sum + ys.length * sep.length ≤ 16777216 ∧ Q (.str (Txt.join sep ys)) H
theorem mt_join : MtM X "str.join" (rJoin X.K) := by
  intro pins s σ H x vs v us Q I rx rv h
  obtain ⟨sep, l, ys, rfl, rfl, hl, hz, q⟩ := h
  obtain ⟨t, rfl⟩ := rx
  obtain ⟨u, rfl, ru⟩ := rv.one
  cases ru
  obtain ⟨its, r, p, _⟩ := I.list hl
  exact PyProof.Rows.join_list p.isList (by simpa using strsAre_of r) hz fun t' k => ⟨.str _, H, I.tok k, ⟨_, rfl⟩, q⟩
def rSlS : V → Option Int → Option Int → Hp → VK → Prop := fun x lo hi H Q => ∃ (z : Str), x = .str z ∧ z.length ≤ sizeLine ∧ Q (.str (Txt.slice z lo hi)) H
theorem sl_str : SlR X rSlS := by
  intro pins s σ H x v vl vu lo hi sl Q I rx hs pl pu h
  obtain ⟨z, rfl, hz, q⟩ := h
  obtain ⟨t, rfl⟩ := rx
  obtain ⟨o, ho, hc, hd⟩ := hs
  refine ⟨"str", _, PySem.F.slot_str_getitem.lookup, typeIs_str _ _ _, ?_⟩
  cases pl with
  | none =>
    cases pu with
    | none => exact wpAny_getItem_str_slice (l := none) (u := none) (st := none) ⟨o, ho, hc, hd⟩ rfl (post_val_or_str ⟨Nat.le_trans (Txt.slice_le z none none) hz, fun t' k => ⟨.str _, H, I.tok k, ⟨_, rfl⟩, q⟩⟩)
    | int j tj => exact wpAny_getItem_str_slice (l := none) (u := some (j, tj)) (st := none) ⟨o, ho, hc, hd⟩ rfl (post_val_or_str ⟨Nat.le_trans (Txt.slice_le z none (some j)) hz, fun t' k => ⟨.str _, H, I.tok k, ⟨_, rfl⟩, q⟩⟩)
  | int i ti =>
    cases pu with
    | none => exact wpAny_getItem_str_slice (l := some (i, ti)) (u := none) (st := none) ⟨o, ho, hc, hd⟩ rfl (post_val_or_str ⟨Nat.le_trans (Txt.slice_le z (some i) none) hz, fun t' k => ⟨.str _, H, I.tok k, ⟨_, rfl⟩, q⟩⟩)
    | int j tj => exact wpAny_getItem_str_slice (l := some (i, ti)) (u := some (j, tj)) (st := none) ⟨o, ho, hc, hd⟩ rfl (post_val_or_str ⟨Nat.le_trans (Txt.slice_le z (some i) (some j)) hz, fun t' k => ⟨.str _, H, I.tok k, ⟨_, rfl⟩, q⟩⟩)
end
theorem extend_by_tup (l b : Addr) (xs ys : Array Value) (m k : Nat) (dd : Option Addr) (sl : Array (Option Value)) (h0 : ¬(!xs.isEmpty && Builtin.List.listTooLong (xs.size + ys.size)) = true) (h1 : xs.size ≤ sizeLine) (h2 : xs.size + ys.size ≤ sizeLine + 1) :
    Meets (Builtin.«list.extend» ⟨[.ref l, .ref b], []⟩) (fun _ R s => s.heap.get? l = some ({ cls := .type "list", data := .seq xs m } : Obj) ∧ s.heap.get? b = some ({ cls := .type "tuple", dict := dd, data := .seq ys k, slots := sl } : Obj) ∧ R (.ok (.ret Value.none)) { s with heap := s.heap.update l (Obj.mapSeq fun x => x ++ ys), toks := s.toks }) :=
  .of_wp fun prog w A R s h => by
    obtain ⟨hp, g, d, tk, os⟩ := s
    obtain ⟨e1, e2, h⟩ := h
    have f1 := AutoSeq1.idx_int; have f2 := AutoSeq1.sub_tuple_tuple; have f3 := AutoSeq1.sub_list_list; have f4 := AutoSeq1.sub_tuple_list; have f5 := AutoSeq1.sub_list_tuple
    have z : (xs ++ ys).size ≤ sizeLine + 1 := by rw [Array.size_append]; exact h2
    wp_walk using (wpAny_updateSeq e1 rfl (hz := h1) (_hz' := z)), AutoSeq1.wpAny_loadPart' e1, AutoSeq1.wpAny_loadPart' e2
    exact ⟨_, rfl, h⟩
section
variable {X : Cx}
def rExtendT : V → List V → Hp → VK → Prop := fun x vs H Q => ∃ l b xs zs, x = .ref l ∧ vs = [.ref b] ∧ H l = some (.lst xs) ∧ H b = some (.tup zs) ∧ xs.length + zs.length ≤ sizeLine ∧ Q .non (upd H l (.lst (xs ++ zs)))
theorem mt_extendT : MtM X "list.extend" rExtendT := by
  intro pins s σ H x vs v us Q I rx rv h
  obtain ⟨l, b, xs, zs, rfl, rfl, hH, hB, hz, q⟩ := h
  cases rx
  obtain ⟨u, rfl, ru⟩ := rv.one
  cases ru
  obtain ⟨z, its, n, r, hl, e⟩ := I.lstM hH
  obtain ⟨_, its2, r2, ⟨oc, od, oda, osl⟩, e2, h2, n2, h3⟩ := (show ObjOk X.prog X.w H s.heap b (.tup zs) from I.hok b _ hB)
  dsimp only at h2 h3
  subst h2 h3
  have hl2 := r2.length
  have hsz : its.toArray.size + its2.toArray.size ≤ sizeLine := by rw [List.size_toArray, List.size_toArray]; omega
  have hlong : ¬ (!its.toArray.isEmpty && Builtin.List.listTooLong (its.toArray.size + its2.toArray.size)) = true := by
    rw [notLongL hsz, Bool.and_false]
    exact Bool.false_ne_true
  refine call_meets PySem.F.slot_list_extend ⟨_, e, rfl⟩ PySem.F.entry_list_extend (PySem.F.args_list_extend_2 _ _)
    (extend_by_tup l b its.toArray its2.toArray n n2 _ _ hlong (by rw [List.size_toArray]; omega) (by omega)) ⟨e, e2, ?_⟩
  refine ⟨.non, _, I.lset (its' := its ++ its2) hH e (by simp) (r.append r2) ?_, rfl, q⟩
  rw [List.length_append]
  omega
def rNeNil : R2 := fun x y H Q => ∃ l b xs, x = .ref l ∧ y = .ref b ∧ H l = some (.lst xs) ∧ H b = some (.lst []) ∧ Q (.bl (!xs.isEmpty)) H
theorem op_neNil (hu : X.A.units + 1 < cLine) : OpR X (compareOp .NotEq) rNeNil := by
  intro pins s σ H x y v u Q I rx ry h
  obtain ⟨l, b, xs, rfl, rfl, hH, hB, q⟩ := h
  cases rx
  cases ry
  obtain ⟨its, r, pl, _⟩ := I.list (SqL.of hH)
  obtain ⟨its2, r2, pl2, _⟩ := I.list (SqL.of hB)
  cases r2
  have fin : ∀ k : Bool, k = !xs.isEmpty → EP X pins σ Q (.bool k) s := fun k e => by subst e; exact ⟨.bl _, H, I, rfl, q⟩
  cases r with
  | nil => exact SeqAt.RcNeAt.lists (e := fun _ => true) pl.isList pl2.isList rfl (by omega) (fun j h1 _ => absurd h1 (by simp)) X.prog X.w X.xe _ (fin _ rfl)
  | cons r1 r2 => exact SeqAt.RcNeAt.lists_lengths pl.isList pl2.isList (by simp) (by omega) X.prog X.w X.xe _ (fin _ rfl)
theorem boolsAre_of : ∀ {bs : List Bool} {us : List Value}, Vals (bs.map V.bl) us → us = bs.map Value.bool
  | [], _, r => by cases r; rfl
  | b :: bs, _, r => by
    rw [List.map_cons] at r
    cases r with
    | cons r1 r2 => rw [boolsAre_of r2, (show _ = Value.bool b from r1)]; rfl
theorem call_allB (hc : X.calm = true) : CallR X (.builtin "all") (fun xs H Q => ∃ (p : Addr) (bs : List Bool), xs = [.ref p] ∧ SqL X.K H p (bs.map V.bl) ∧ Q (.bl (bs.all id)) H) := by
  intro pins s σ H xs us Q I r h
  obtain ⟨p, bs, rfl, hp, q⟩ := h
  obtain ⟨u, rfl, ru⟩ := vals1 r
  cases ru
  obtain ⟨its, rv, pl, _⟩ := I.list hp
  have e := boolsAre_of rv
  subst e
  have hlt : p < s.heap.objs.size := by obtain ⟨_, e, _⟩ := pl.isList; exact Heap.lt_size e
  refine call_all_walk (wpAny_pyIter_list pl.isList ⟨s.heap.objs.size, [s.heap.objs.size, p], [s.heap.objs.size], (bs.map Value.bool).toArray.size, _, _, fun i => (bs[i]?).getD true, rfl, Walks.list (A := X.A.in1) (I.ok.hd hc) _ p (Nat.ne_of_lt hlt) _,
    ⟨⟨_, Heap.get?_push_size _ rfl, rfl, rfl⟩, pl.isList.push _⟩, fun i v s' Q' E' hP hQ => ?_, fun h' tk hk => ?_⟩)
  · have hP' : (bs.map Value.bool)[i]? = some v := by simpa using hP
    rw [List.getElem?_map] at hP'
    obtain ⟨b, e, rfl⟩ := Option.map_eq_some_iff.mp hP'
    dsimp only at hQ
    rw [e] at hQ
    exact wpAny_truthy_bool hQ
  · have e : ((List.range (bs.map Value.bool).toArray.size).all fun i => (bs[i]?).getD true) = bs.all id := by
      rw [List.size_toArray, List.length_map]
      exact PyProof.Rows.LSm.range_all bs
    rw [e]
    refine ⟨.bl _, H, I.kept (t' := tk) fun b x ex => hk b x (fun hm => ?_) (Heap.get?_push_of_some _ ex), rfl, q⟩
    rw [List.mem_singleton.mp hm] at ex
    exact Nat.lt_irrefl _ (Heap.lt_size ex)
end
end L2
set_option Elab.async false
set_option linter.all false
set_option maxRecDepth 100000
set_option maxHeartbeats 1000000
namespace Trm
open PySem
inductive Tm where
  | nm (x : Str)
  | ap (f : Str) (ts : List Tm)
def Ltr (c : Nat) : Prop := 97 ≤ c ∧ c ≤ 122
structure Nm (x : Str) : Prop where
  pos : 0 < x.length
  le : x.length ≤ 8
  ltr : ∀ c ∈ x.cps.toList, Ltr c
mutual
def Tm.depth : Tm → Nat
  | .nm _ => 0
  | .ap _ ts => Tms.depth ts + 1
def Tms.depth : List Tm → Nat
  | [] => 0
  | t :: ts => max (Tm.depth t) (Tms.depth ts)
end
mutual
def Tm.Wf : Tm → Prop
  | .nm x => Nm x
  | .ap f ts => Nm f ∧ 0 < ts.length ∧ ts.length ≤ 3 ∧ Tms.Wf ts
def Tms.Wf : List Tm → Prop
  | [] => True
  | t :: ts => Tm.Wf t ∧ Tms.Wf ts
end
mutual
def Tm.all : Tm → List Tm
  | .nm x => [.nm x]
  | .ap f ts => Tms.all ts ++ [.ap f ts]
def Tms.all : List Tm → List Tm
  | [] => []
  | t :: ts => Tm.all t ++ Tms.all ts
end
def Tm.kids : Tm → List Tm
  | .nm _ => []
  | .ap _ ts => ts
mutual
def Tm.shown : Tm → Str
  | .nm x => x
  | .ap f ts => Str.ofString "(" ++ Txt.join (Str.ofString " ") (f :: Tms.shown ts) ++ Str.ofString ")"
def Tms.shown : List Tm → List Str
  | [] => []
  | t :: ts => Tm.shown t :: Tms.shown ts
end
theorem shown_map : ∀ ts : List Tm, Tms.shown ts = ts.map Tm.shown
  | [] => by simp [Tms.shown]
  | t :: ts => by simp [Tms.shown, shown_map ts]
theorem wf_mem : ∀ {ts : List Tm}, Tms.Wf ts → ∀ t ∈ ts, t.Wf
  | [], _, t, h => by cases h
  | a :: ts, w, t, h => by
    unfold Tms.Wf at w
    rcases List.mem_cons.mp h with rfl | h
    · exact w.1
    · exact wf_mem w.2 t h
theorem wf_of : ∀ {ts : List Tm}, (∀ t ∈ ts, t.Wf) → Tms.Wf ts
  | [], _ => by unfold Tms.Wf; trivial
  | a :: ts, h => by
    unfold Tms.Wf
    exact ⟨h a List.mem_cons_self, wf_of fun t m => h t (List.mem_cons_of_mem _ m)⟩
theorem depth_mem : ∀ {ts : List Tm} {t : Tm}, t ∈ ts → t.depth ≤ Tms.depth ts
  | a :: ts, t, h => by
    unfold Tms.depth
    rcases List.mem_cons.mp h with rfl | h
    · omega
    · have := depth_mem h
      omega
theorem depth_le {n : Nat} : ∀ {ts : List Tm}, (∀ t ∈ ts, t.depth ≤ n) → Tms.depth ts ≤ n
  | [], _ => by unfold Tms.depth; omega
  | a :: ts, h => by
    unfold Tms.depth
    have h1 := h a List.mem_cons_self
    have h2 := depth_le fun t m => h t (List.mem_cons_of_mem _ m)
    omega
theorem depth_app : ∀ (a b : List Tm), Tms.depth (a ++ b) = max (Tms.depth a) (Tms.depth b)
  | [], b => by simp [Tms.depth]
  | t :: a, b => by
    rw [List.cons_append]
    simp only [Tms.depth]
    rw [depth_app a b]
    omega
theorem depth_kids {t : Tm} (w : t.Wf) : t.depth = if t.kids = [] then 0 else Tms.depth t.kids + 1 := by
  cases t with
  | nm x => simp [Tm.depth, Tm.kids]
  | ap f ts =>
    unfold Tm.Wf at w
    have : ts ≠ [] := fun z => by rw [z] at w; exact absurd w.2.1 (by simp)
    simp [Tm.depth, Tm.kids, this]
def lower (ts : List Tm) : List Tm := ts.flatMap Tm.kids
theorem depth_lower : ∀ {ts : List Tm}, Tms.Wf ts → Tms.depth ts = if lower ts = [] then 0 else Tms.depth (lower ts) + 1
  | [], _ => by simp [lower, Tms.depth]
  | t :: ts, w => by
    unfold Tms.Wf at w
    have ih := depth_lower w.2
    have hk := depth_kids w.1
    have e : lower (t :: ts) = t.kids ++ lower ts := by simp [lower]
    rw [e]
    simp only [Tms.depth]
    rw [ih, hk, depth_app]
    by_cases h1 : t.kids = []
    · by_cases h2 : lower ts = []
      · simp [h1, h2]
      · simp only [h1, h2, if_pos, if_neg, List.nil_append, Tms.depth, if_false, not_false_eq_true]
        simp
    · by_cases h2 : lower ts = []
      · simp only [h2, List.append_nil, if_pos, if_neg h1, Tms.depth]
        simp
      · have h3 : ¬ (t.kids ++ lower ts = []) := by simp [h1]
        rw [if_neg h1, if_neg h2, if_neg h3]
        omega
theorem wf_kids {t : Tm} (w : t.Wf) : Tms.Wf t.kids := by
  cases t with
  | nm x => unfold Tm.kids Tms.Wf; trivial
  | ap f ts => unfold Tm.Wf at w; exact w.2.2.2
theorem wf_app : ∀ {a b : List Tm}, Tms.Wf a → Tms.Wf b → Tms.Wf (a ++ b)
  | [], _, _, h => h
  | t :: a, b, h1, h2 => by
    rw [List.cons_append]
    unfold Tms.Wf at h1 ⊢
    exact ⟨h1.1, wf_app h1.2 h2⟩
theorem wf_lower : ∀ {ts : List Tm}, Tms.Wf ts → Tms.Wf (lower ts)
  | [], _ => by unfold lower; simp [Tms.Wf]
  | t :: ts, w => by
    unfold Tms.Wf at w
    have e : lower (t :: ts) = t.kids ++ lower ts := by simp [lower]
    rw [e]
    exact wf_app (wf_kids w.1) (wf_lower w.2)
theorem all_app : ∀ (a b : List Tm), Tms.all (a ++ b) = Tms.all a ++ Tms.all b
  | [], b => by simp [Tms.all]
  | t :: a, b => by simp [Tms.all, all_app a b]
theorem all_kids (t : Tm) : t.all = Tms.all t.kids ++ [t] := by
  cases t with
  | nm x => simp [Tm.all, Tm.kids, Tms.all]
  | ap f ts => simp [Tm.all, Tm.kids]
theorem all_lower : ∀ (ts : List Tm), (Tms.all ts).length = (Tms.all (lower ts)).length + ts.length
  | [] => by simp [lower, Tms.all]
  | t :: ts => by
    have e : lower (t :: ts) = t.kids ++ lower ts := by simp [lower]
    rw [e, all_app]
    simp only [Tms.all, List.length_append, List.length_cons]
    rw [all_lower ts, all_kids]
    simp only [List.length_append, List.length_cons, List.length_nil]
    omega
mutual
theorem all_small : ∀ {t : Tm} {n : Nat}, t.Wf → t.depth ≤ n → t.all.length + 1 ≤ 2 * 4 ^ n
  | .nm x, n, _, _ => by
    have : 1 ≤ 4 ^ n := Nat.one_le_pow _ _ (by decide)
    simp only [Tm.all, List.length_cons, List.length_nil]
    omega
  | .ap f ts, n, w, h => by
    unfold Tm.Wf at w
    unfold Tm.depth at h
    obtain ⟨m, rfl⟩ : ∃ m, n = m + 1 := ⟨n - 1, by omega⟩
    have ih := alls_small (n := m) w.2.2.2 (by omega)
    have : 1 ≤ 4 ^ m := Nat.one_le_pow _ _ (by decide)
    have e : 4 ^ (m + 1) = 4 * 4 ^ m := by rw [Nat.pow_succ]; omega
    simp only [Tm.all, List.length_append, List.length_cons, List.length_nil]
    rw [e]
    have h3 : ts.length * (2 * 4 ^ m) ≤ 3 * (2 * 4 ^ m) := Nat.mul_le_mul_right _ w.2.2.1
    omega
theorem alls_small : ∀ {ts : List Tm} {n : Nat}, Tms.Wf ts → Tms.depth ts ≤ n → (Tms.all ts).length ≤ ts.length * (2 * 4 ^ n)
  | [], n, _, _ => by simp [Tms.all]
  | t :: ts, n, w, h => by
    unfold Tms.Wf at w
    unfold Tms.depth at h
    have h1 := all_small (n := n) w.1 (by omega)
    have h2 := alls_small (n := n) w.2 (by omega)
    simp only [Tms.all, List.length_append, List.length_cons]
    have e : (ts.length + 1) * (2 * 4 ^ n) = ts.length * (2 * 4 ^ n) + 2 * 4 ^ n := Nat.succ_mul _ _
    rw [e]
    omega
end
theorem all_wf1 : ∀ (n : Nat) {t : Tm}, t.depth ≤ n → t.Wf → ∀ u ∈ t.all, u.Wf ∧ u.depth ≤ n
  | n, .nm x, _, w, u, h => by
    simp only [Tm.all, List.mem_singleton] at h
    subst h
    exact ⟨w, by simp [Tm.depth]⟩
  | 0, .ap f ts, h, _, _, _ => by simp [Tm.depth] at h
  | n + 1, .ap f ts, h, w, u, m => by
    simp only [Tm.all, List.mem_append, List.mem_singleton] at m
    rcases m with m | m
    · have hw := w
      unfold Tm.Wf at hw
      unfold Tm.depth at h
      have : ∀ {ts : List Tm}, Tms.Wf ts → Tms.depth ts ≤ n → ∀ u ∈ Tms.all ts, u.Wf ∧ u.depth ≤ n := by
        intro ts
        induction ts with
        | nil => intro _ _ u m; simp [Tms.all] at m
        | cons t ts ih =>
          intro w h u m
          unfold Tms.Wf at w
          unfold Tms.depth at h
          simp only [Tms.all, List.mem_append] at m
          rcases m with m | m
          · exact all_wf1 n (by omega) w.1 u m
          · exact ih w.2 (by omega) u m
      obtain ⟨h1, h2⟩ := this hw.2.2.2 (by omega) u m
      exact ⟨h1, by omega⟩
    · subst m
      exact ⟨w, h⟩
end Trm
set_option Elab.async false
set_option linter.all false
set_option maxRecDepth 100000
set_option maxHeartbeats 1000000
namespace Trm
open PySem
def cl (x : Str) : List Nat := x.cps.toList
theorem cl_app (x y : Str) : cl (x ++ y) = cl x ++ cl y := by
  show (x.cps ++ y.cps).toList = _
  simp [cl]
theorem cl_inj {x y : Str} (h : cl x = cl y) : x = y := by
  cases x
  cases y
  simp only [Str.mk.injEq]
  exact Array.toList_inj.mp h
theorem cl_len (x : Str) : (cl x).length = x.length := by simp [cl, Str.length]
mutual
def Tm.code : Tm → List Nat
  | .nm x => cl x
  | .ap f ts => 40 :: (cl f ++ (Tms.code ts ++ [41]))
def Tms.code : List Tm → List Nat
  | [] => []
  | t :: ts => 32 :: (Tm.code t ++ Tms.code ts)
end
theorem cl_join (f : Str) : ∀ ys : List Str, cl (Str.join (Str.ofString " ") (f :: ys)) = cl f ++ ys.flatMap fun y => 32 :: cl y
  | [] => by
    show cl f = _
    simp
  | y :: ys => by
    show cl (f ++ Str.ofString " " ++ Str.join (Str.ofString " ") (y :: ys)) = _
    rw [cl_app, cl_app, cl_join y ys]
    have e : cl (Str.ofString " ") = [32] := by decide +kernel
    rw [e]
    simp
mutual
theorem shown_code : ∀ t : Tm, cl t.shown = t.code
  | .nm x => by simp [Tm.shown, Tm.code]
  | .ap f ts => by
    have e1 : cl (Str.ofString "(") = [40] := by decide +kernel
    have e2 : cl (Str.ofString ")") = [41] := by decide +kernel
    have e3 : Txt.join (Str.ofString " ") (f :: Tms.shown ts) = Str.join (Str.ofString " ") (f :: Tms.shown ts) := StrLaws.glued_eq_join _ _
    simp only [Tm.shown, Tm.code]
    rw [cl_app, cl_app, e1, e2, e3, cl_join, showns_code ts]
    simp
theorem showns_code : ∀ ts : List Tm, ((Tms.shown ts).flatMap fun y => 32 :: cl y) = Tms.code ts
  | [] => by simp [Tms.shown, Tms.code]
  | t :: ts => by
    simp only [Tms.shown, Tms.code, List.flatMap_cons]
    rw [shown_code t, showns_code ts]
    simp
end
def Stop (r : List Nat) : Prop := ∀ c l, r = c :: l → ¬ Ltr c
theorem word_eq : ∀ {x y r s : List Nat}, (∀ c ∈ x, Ltr c) → (∀ c ∈ y, Ltr c) → Stop r → Stop s → x ++ r = y ++ s → x = y ∧ r = s
  | [], [], _, _, _, _, _, _, e => ⟨rfl, e⟩
  | [], b :: y, r, s, _, hy, hr, _, e => by
    exact absurd (hy b List.mem_cons_self) (hr b _ e)
  | a :: x, [], r, s, hx, _, _, hs, e => by
    exact absurd (hx a List.mem_cons_self) (hs a _ e.symm)
  | a :: x, b :: y, r, s, hx, hy, hr, hs, e => by
    rw [List.cons_append, List.cons_append] at e
    obtain ⟨e1, e2⟩ := List.cons.inj e
    obtain ⟨q1, q2⟩ := word_eq (fun c m => hx c (List.mem_cons_of_mem _ m)) (fun c m => hy c (List.mem_cons_of_mem _ m)) hr hs e2
    exact ⟨by rw [e1, q1], q2⟩
theorem stop_codes (ts : List Tm) (r : List Nat) : Stop (Tms.code ts ++ 41 :: r) := by
  intro c l e
  cases ts with
  | nil =>
    simp only [Tms.code, List.nil_append] at e
    have := (List.cons.inj e).1
    subst this
    unfold Ltr
    omega
  | cons t ts =>
    simp only [Tms.code, List.cons_append] at e
    have := (List.cons.inj e).1
    subst this
    unfold Ltr
    omega
theorem nm_cl {x : Str} (h : Nm x) : ∃ c l, cl x = c :: l ∧ Ltr c := by
  cases e : cl x with
  | nil =>
    have := cl_len x
    rw [e] at this
    have := h.pos
    simp at *
    omega
  | cons c l => exact ⟨c, l, rfl, h.ltr c (by show c ∈ cl x; rw [e]; exact List.mem_cons_self)⟩
mutual
theorem code_inj : ∀ {t u : Tm} {r s : List Nat}, t.Wf → u.Wf → Stop r → Stop s → t.code ++ r = u.code ++ s → t = u ∧ r = s
  | .nm x, .nm y, r, s, hx, hy, hr, hs, e => by
    unfold Tm.Wf at hx hy
    simp only [Tm.code] at e
    obtain ⟨e1, e2⟩ := word_eq hx.ltr hy.ltr hr hs e
    exact ⟨by rw [cl_inj e1], e2⟩
  | .nm x, .ap g us, r, s, hx, _, _, _, e => by
    unfold Tm.Wf at hx
    simp only [Tm.code] at e
    obtain ⟨c, l, q, hc⟩ := nm_cl hx
    rw [q, List.cons_append, List.cons_append] at e
    have := (List.cons.inj e).1
    subst this
    unfold Ltr at hc
    omega
  | .ap f ts, .nm y, r, s, _, hy, _, _, e => by
    unfold Tm.Wf at hy
    simp only [Tm.code] at e
    obtain ⟨c, l, q, hc⟩ := nm_cl hy
    rw [q, List.cons_append, List.cons_append] at e
    have := (List.cons.inj e).1
    subst this
    unfold Ltr at hc
    omega
  | .ap f ts, .ap g us, r, s, hx, hy, hr, hs, e => by
    unfold Tm.Wf at hx hy
    simp only [Tm.code, List.cons_append, List.append_assoc] at e
    have e0 := (List.cons.inj e).2
    obtain ⟨e1, e2⟩ := word_eq (x := cl f) (y := cl g) hx.1.ltr hy.1.ltr (stop_codes ts r) (stop_codes us s) (by simpa using e0)
    obtain ⟨e3, e4⟩ := codes_inj hx.2.2.2 hy.2.2.2 e2
    exact ⟨by rw [cl_inj e1, e3], e4⟩
theorem codes_inj : ∀ {ts us : List Tm} {r s : List Nat}, Tms.Wf ts → Tms.Wf us → Tms.code ts ++ 41 :: r = Tms.code us ++ 41 :: s → ts = us ∧ r = s
  | [], [], r, s, _, _, e => by
    simp only [Tms.code, List.nil_append] at e
    exact ⟨rfl, (List.cons.inj e).2⟩
  | [], u :: us, r, s, _, _, e => by
    simp only [Tms.code, List.nil_append, List.cons_append] at e
    have := (List.cons.inj e).1
    omega
  | t :: ts, [], r, s, _, _, e => by
    simp only [Tms.code, List.nil_append, List.cons_append] at e
    have := (List.cons.inj e).1
    omega
  | t :: ts, u :: us, r, s, ht, hu, e => by
    unfold Tms.Wf at ht hu
    simp only [Tms.code, List.cons_append, List.append_assoc] at e
    have e0 := (List.cons.inj e).2
    obtain ⟨e1, e2⟩ := code_inj ht.1 hu.1 (stop_codes ts r) (stop_codes us s) e0
    obtain ⟨e3, e4⟩ := codes_inj ht.2 hu.2 e2
    exact ⟨by rw [e1, e3], e4⟩
end
theorem stop_nil : Stop [] := fun c l e => by cases e
theorem shown_inj {t u : Tm} (ht : t.Wf) (hu : u.Wf) (e : t.shown = u.shown) : t = u := by
  refine (code_inj (r := []) (s := []) ht hu stop_nil stop_nil ?_).1
  rw [← shown_code, ← shown_code, e]
mutual
theorem code_len : ∀ {t : Tm} {n : Nat}, t.Wf → t.depth ≤ n → t.code.length ≤ 20 * 4 ^ n
  | .nm x, n, w, _ => by
    unfold Tm.Wf at w
    have : 1 ≤ 4 ^ n := Nat.one_le_pow _ _ (by decide)
    have h8 := w.le
    simp only [Tm.code, cl_len]
    omega
  | .ap f ts, n, w, h => by
    unfold Tm.Wf at w
    unfold Tm.depth at h
    obtain ⟨m, rfl⟩ : ∃ m, n = m + 1 := ⟨n - 1, by omega⟩
    have ih := codes_len (n := m) w.2.2.2 (by omega)
    have : 1 ≤ 4 ^ m := Nat.one_le_pow _ _ (by decide)
    have e : 4 ^ (m + 1) = 4 * 4 ^ m := by rw [Nat.pow_succ]; omega
    have h8 := w.1.le
    have h3 : ts.length * (20 * 4 ^ m + 1) ≤ 3 * (20 * 4 ^ m + 1) := Nat.mul_le_mul_right _ w.2.2.1
    simp only [Tm.code, List.length_cons, List.length_append, List.length_nil, cl_len]
    rw [e]
    omega
theorem codes_len : ∀ {ts : List Tm} {n : Nat}, Tms.Wf ts → Tms.depth ts ≤ n → (Tms.code ts).length ≤ ts.length * (20 * 4 ^ n + 1)
  | [], n, _, _ => by simp [Tms.code]
  | t :: ts, n, w, h => by
    unfold Tms.Wf at w
    unfold Tms.depth at h
    have h1 := code_len (n := n) w.1 (by omega)
    have h2 := codes_len (n := n) w.2 (by omega)
    simp only [Tms.code, List.length_append, List.length_cons]
    have e : (ts.length + 1) * (20 * 4 ^ n + 1) = ts.length * (20 * 4 ^ n + 1) + (20 * 4 ^ n + 1) := Nat.succ_mul _ _
    rw [e]
    omega
end
theorem showns_sum : ∀ (ts : List Tm), ((ts.map Tm.shown).map (·.length)).sum + ts.length = (Tms.code ts).length
  | [] => by simp [Tms.code]
  | t :: ts => by
    have ih := showns_sum ts
    simp only [List.map_cons, List.sum_cons, List.length_cons, Tms.code, List.length_append]
    rw [← ih, ← shown_code, cl_len]
    omega
open Classical in
noncomputable def add (acc : List Tm) (t : Tm) : List Tm := if t ∈ acc then acc else acc ++ [t]
noncomputable def firsts (acc ts : List Tm) : List Tm := ts.foldl add acc
theorem add_in {acc : List Tm} {t : Tm} (h : t ∈ acc) : add acc t = acc := by unfold add; rw [if_pos h]
theorem add_out {acc : List Tm} {t : Tm} (h : ¬ t ∈ acc) : add acc t = acc ++ [t] := by unfold add; rw [if_neg h]
theorem firsts_app (acc a b : List Tm) : firsts acc (a ++ b) = firsts (firsts acc a) b := by
  unfold firsts
  rw [List.foldl_append]
theorem firsts_nil (acc : List Tm) : firsts acc [] = acc := rfl
theorem firsts_cons (acc : List Tm) (t : Tm) (ts : List Tm) : firsts acc (t :: ts) = firsts (add acc t) ts := rfl
theorem firsts_one (acc : List Tm) (t : Tm) : firsts acc [t] = add acc t := rfl
theorem add_len (acc : List Tm) (t : Tm) : (add acc t).length ≤ acc.length + 1 := by
  unfold add
  split <;> simp
theorem firsts_len : ∀ (ts acc : List Tm), (firsts acc ts).length ≤ acc.length + ts.length
  | [], acc => by simp [firsts_nil]
  | t :: ts, acc => by
    rw [firsts_cons, List.length_cons]
    have := firsts_len ts (add acc t)
    have := add_len acc t
    omega
theorem add_wf {acc : List Tm} {t : Tm} (h : Tms.Wf acc) (w : t.Wf) : Tms.Wf (add acc t) := by
  by_cases m : t ∈ acc
  · rw [add_in m]; exact h
  · rw [add_out m]
    exact wf_app h (by unfold Tms.Wf; exact ⟨w, by unfold Tms.Wf; trivial⟩)
end Trm
set_option Elab.async false
set_option linter.all false
set_option maxRecDepth 100000
set_option maxHeartbeats 1000000
namespace L2
open PySem PySem.Spec PyProof.Rows
section
variable {X : Cx}
def ViewV (v d : Addr) : HO := .ext fun h => h.IsValuesView v d
theorem view_ok {P : Program} {w : World} {H : Hp} {h : Heap} {v d : Addr} (x : h.IsValuesView v d) : ObjOk P w H h v (ViewV v d) := by
  obtain ⟨o, e, r⟩ := x
  exact ⟨⟨o, e, r⟩, ⟨_, e⟩, fun _ _ ⟨o', y, c⟩ k => ⟨o', k _ y, c⟩⟩
def rValues : V → List V → Hp → VK → Prop := fun x vs H Q => ∃ a kvs, x = .ref a ∧ vs = [] ∧ H a = some (.dK kvs) ∧ ∀ v, H v = none → Q (.ref v) (upd H v (ViewV v a))
theorem mt_values : MtM X "dict.values" rValues := by
  intro pins s σ H x vs u us Q I rx rv h
  obtain ⟨a, kvs, rfl, rfl, hH, q⟩ := h
  cases rx
  cases rv.zero
  obtain ⟨z, hd, ws, rel, dd⟩ := dk_of I.hok hH
  refine call_meetsIn PySem.F.slot_dict_values dd.typeIs PySem.F.entry_dict_values (PySem.F.args_dict_values_1 _) (meets_dict_values (mixKind X.prog X.w) a hd) ⟨⟨ws, dd⟩, ?_⟩
  exact ⟨.ref _, _, I.laid (t' := s.toks) (fun b ob e => Heap.get?_push_of_some _ e) (Nat.le_refl _) (view_ok ⟨_, Heap.get?_push_size _ rfl, rfl, rfl⟩), rfl, q _ (I.hok.fresh (Nat.le_refl _))⟩
theorem call_listV (hc : X.calm = true) : CallR X (.type "list") (fun xs H Q => ∃ v a kvs, xs = [.ref v] ∧ H v = some (ViewV v a) ∧ H a = some (.dK kvs) ∧ ∀ l, H l = none → Q (.ref l) (upd H l (.lst (kvs.map (·.2))))) := by
  intro pins s σ H xs us Q I r h
  obtain ⟨v, a, kvs, rfl, hv, hH, q⟩ := h
  obtain ⟨u, rfl, ru⟩ := vals1 r
  cases ru
  obtain ⟨z, hd, ws, rel, dd⟩ := dk_of I.hok hH
  obtain ⟨hview, _⟩ := (show ObjOk X.prog X.w H s.heap v (ViewV v a) from I.hok v _ hv)
  obtain ⟨ep, hat⟩ := dd.dictAt
  refine PySem.W.kdl_call (PySem.W.kdl_values (knd := mixKind X.prog X.w) (kvs := ws) (ep := ep)) (I.ok.hd hc) ⟨hview, hat⟩ (by rw [← rel.length]; exact z) fun h' tk acc' c' hk hD hacc => ?_
  have e : acc'.toList = ws.map (·.2) := PySem.W.kdl_vals_eq acc'.toList (by rw [Array.length_toList]; exact hacc.1) fun j x ex => hacc.2 j x (by rw [← Array.getElem?_toList]; exact ex)
  have rr : Vals (kvs.map (·.2)) acc'.toList := by
    rw [e]
    clear e hacc hD hk hat dd z q hH
    induction rel with
    | nil => exact .nil
    | cons r1 _ ih => exact .cons r1.2 ih
  refine ⟨.ref _, _, I.laid (t' := tk) (o := .lst (kvs.map (·.2))) hk (Nat.le_refl _) ⟨by rw [List.length_map]; exact z, acc'.toList, c', rr, by rw [Array.toArray_toList]; exact hD⟩, rfl, q _ (I.hok.fresh (Nat.le_refl _))⟩
end
end L2
set_option Elab.async false
set_option linter.all false
set_option maxRecDepth 100000
set_option maxHeartbeats 1000000
namespace L2
open PySem PySem.Spec PyProof.Rows
theorem args_maxd (a v : Value) : argsOk "max" ⟨[a], [(Str.ofString "default", v)]⟩ := by unfold argsOk; kernel_rfl
section
variable {prog : Program} {w : World} {A : Around} {R : Result → Shared → Prop} {it S : Addr} {fp wr : List Addr} {n : Nat} {P : Nat → Value → Prop} {St : Nat → Heap → Prop} {kw : List (Str × Value)}
theorem nm_maxloop : (toString "max" ++ toString ".loop" : String) = "max.loop" := by decide
theorem maxk_loop (W : Walks prog w A.in1 it fp wr n P St) (f : Nat → Int) (hf : ∀ i v, P i v → ∃ t, v = Value.int (f i) t) (nS : S ∉ fp) : ∀ (k j : Nat) (s : Shared) (M : Int) (t : Tok) (c : Nat), j + k = n → St j s.heap →
    s.heap.get? S = some ({ cls := .type "list", data := .seq #[Value.int M t, Value.int M t] c } : Obj) →
    (∀ (M' : Int) (t' : Tok) (h' : Heap) (tk : Nat), M ≤ M' → (∀ i, j ≤ i → i < n → f i ≤ M') → (M' = M ∨ ∃ i, j ≤ i ∧ i < n ∧ M' = f i) → (∀ b o, b ∉ wr → b ≠ S → s.heap.get? b = some o → h'.get? b = some o) → R (.ok (.ret (.int M' t'))) { s with heap := h', toks := tk }) →
    codeAny (model prog w) A (.builtin "max.loop" ⟨[.ref it, .none, .ref S], kw⟩) R s := by
  have nw : S ∉ wr := fun z => nS (W.sub _ z)
  intro k
  induction k with
  | zero =>
    intro j s M t c e st gS hR
    have e' : j = n := by omega
    subst e'
    refine codeAny_builtin PySem.F.entry_max_loop ?_; rw [Around.under_plainId PySem.F.plain_max_loop _]
    show wpAny _ A.in1 (seqItems? (.ref S) >>= fun _ => _) _ _ s
    refine wpAny_bind (wpAny_seqItems gS rfl ?_); show wpAny _ A.in1 (tryCatch (pyNext (.ref it)) _ >>= fun _ => _) _ _ s
    refine wpAny_bind (wpAny_tryCatch (W.done s _ _ st fun h1 tk1 k1 => ?_))
    have gS1 := k1 S _ nw gS
    show wpAny _ A.in1 (updateSeq S (fun _ => #[]) >>= fun _ => _) _ _ _
    refine wpAny_bind (wpAny_updateSeq gS1 rfl (wpAny_bind (wpAny_letGo (wpAny_pure ?_))))
    exact hR M t _ tk1 (Int.le_refl _) (fun i h1 h2 => by omega) (.inl rfl) fun b o nb nbS eb => (Heap.get?_update_other _ _ (Ne.symm nbS)).trans (k1 b o nb eb)
  | succ k ih =>
    intro j s M t c e st gS hR
    refine codeAny_builtin PySem.F.entry_max_loop ?_; rw [Around.under_plainId PySem.F.plain_max_loop _]
    show wpAny _ A.in1 (seqItems? (.ref S) >>= fun _ => _) _ _ s
    refine wpAny_bind (wpAny_seqItems gS rfl ?_); show wpAny _ A.in1 (tryCatch (pyNext (.ref it)) _ >>= fun _ => _) _ _ s
    refine wpAny_bind (wpAny_tryCatch (W.item j s _ _ (by omega) st fun v h1 tk1 pv st1 k1 => ?_))
    obtain ⟨tv, rfl⟩ := hf j v pv
    have gS1 := k1 S _ nw gS
    show wpAny _ A.in1 (tryCatch (holding [Value.int (f j) tv, Value.int (f j) tv] (richCompare .Gt (Value.int (f j) tv) (Value.int M t) >>= fun _ => _)) _ >>= fun _ => _) _ _ _
    refine wpAny_bind (wpAny_tryCatch (wpAny_holding (wpAny_bind ?_)))
    refine PyProof.Rows.gt_int (a := f j) (b := M) (t := tv) (u := t) ?_
    refine wpAny_bind (wpAny_holding (wpAny_truthy_bool (wpAny_bind (wpAny_letGo (wpAny_pure ?_)))))
    by_cases hb : M < f j
    · rw [decide_eq_true hb]; simp only [if_true]
      refine wpAny_bind (wpAny_updateSeq gS1 rfl (wpAny_bind (wpAny_letGo ?_))); rw [nm_maxloop]
      refine wpAny_pure ⟨plainId_quiet PySem.F.plain_max_loop _, ih (j + 1) _ (f j) tv _ (by omega) (W.frame _ _ _ st1 fun b hb o eo => (Heap.get?_update_other _ _ (fun z : S = b => nS (by rw [z]; exact hb))).trans eo) (Heap.get?_update_self _ gS1 rfl) fun M' t' h2 tk2 q1 q2 q3 k2 => ?_⟩
      refine hR M' t' h2 tk2 (by omega) (fun i h1 h2 => ?_) ?_ fun b o nb nbS eb => k2 b o nb nbS ((Heap.get?_update_other _ _ (Ne.symm nbS)).trans (k1 b o nb eb))
      · by_cases z : i = j
        · rw [z]; exact q1
        · exact q2 i (by omega) h2
      · rcases q3 with q3 | ⟨i, q4, q5, q6⟩
        · exact .inr ⟨j, by omega, by omega, q3⟩
        · exact .inr ⟨i, by omega, q5, q6⟩
    · rw [decide_eq_false hb]; simp only [Bool.false_eq_true, if_false]
      refine wpAny_bind (wpAny_letGo ?_); rw [nm_maxloop]
      refine wpAny_pure ⟨plainId_quiet PySem.F.plain_max_loop _, ih (j + 1) _ M t c (by omega) st1 gS1 fun M' t' h2 tk2 q1 q2 q3 k2 => ?_⟩
      refine hR M' t' h2 tk2 q1 (fun i h1 h2 => ?_) ?_ fun b o nb nbS eb => k2 b o nb nbS (k1 b o nb eb)
      · by_cases z : i = j
        · rw [z]; omega
        · exact q2 i (by omega) h2
      · rcases q3 with q3 | ⟨i, q4, q5, q6⟩
        · exact .inl q3
        · exact .inr ⟨i, by omega, q5, q6⟩
theorem maxk_first (W : Walks prog w A.in1 it fp wr n P St) (f : Nat → Int) (hf : ∀ i v, P i v → ∃ t, v = Value.int (f i) t) (nS : S ∉ fp) (d : Value) {s : Shared} {c : Nat} (st : St 0 s.heap)
    (gS : s.heap.get? S = some ({ cls := .type "list", data := .seq #[] c } : Obj))
    (h0 : n = 0 → ∀ (h' : Heap) (tk : Nat), (∀ b o, b ∉ wr → b ≠ S → s.heap.get? b = some o → h'.get? b = some o) → R (.ok (.ret d)) { s with heap := h', toks := tk })
    (hR : ∀ (i : Nat) (t' : Tok) (h' : Heap) (tk : Nat), i < n → (∀ j, j < n → f j ≤ f i) → (∀ b o, b ∉ wr → b ≠ S → s.heap.get? b = some o → h'.get? b = some o) → R (.ok (.ret (.int (f i) t'))) { s with heap := h', toks := tk }) :
    codeAny (model prog w) A (.builtin "max.loop" ⟨[.ref it, .none, .ref S], [(Str.ofString "default", d)]⟩) R s := by
  have nw : S ∉ wr := fun z => nS (W.sub _ z)
  refine codeAny_builtin PySem.F.entry_max_loop ?_; rw [Around.under_plainId PySem.F.plain_max_loop _]
  show wpAny _ A.in1 (seqItems? (.ref S) >>= fun _ => _) _ _ s
  refine wpAny_bind (wpAny_seqItems gS rfl ?_); show wpAny _ A.in1 (tryCatch (pyNext (.ref it)) _ >>= fun _ => _) _ _ s
  by_cases z : n = 0
  · refine wpAny_bind (wpAny_tryCatch (W.done s _ _ (by rw [z]; exact st) fun h1 tk1 k1 => ?_))
    refine wpAny_bind (wpAny_rule (wpAny_pure ?_))
    exact h0 z _ tk1 fun b o nb _ eb => k1 b o nb eb
  · refine wpAny_bind (wpAny_tryCatch (W.item 0 s _ _ (by omega) st fun v h1 tk1 pv st1 k1 => ?_))
    obtain ⟨tv, rfl⟩ := hf 0 v pv
    have gS1 := k1 S _ nw gS
    show wpAny _ A.in1 (updateSeq S (fun _ => #[Value.int (f 0) tv, Value.int (f 0) tv]) >>= fun _ => _) _ _ _
    refine wpAny_bind (wpAny_updateSeq gS1 rfl ?_); rw [nm_maxloop]
    refine wpAny_pure ⟨plainId_quiet PySem.F.plain_max_loop _, maxk_loop W f hf nS (n - 1) 1 _ (f 0) tv _ (by omega) (W.frame _ _ _ st1 fun b hb o eo => (Heap.get?_update_other _ _ (fun z : S = b => nS (by rw [z]; exact hb))).trans eo) (Heap.get?_update_self _ gS1 rfl) fun M' t' h2 tk2 q1 q2 q3 k2 => ?_⟩
    have kk : ∀ b o, b ∉ wr → b ≠ S → s.heap.get? b = some o → h2.get? b = some o := fun b o nb nbS eb => k2 b o nb nbS ((Heap.get?_update_other _ _ (Ne.symm nbS)).trans (k1 b o nb eb))
    have q2' : ∀ j, j < n → f j ≤ M' := fun j hj => by
      by_cases y : j = 0
      · rw [y]; exact q1
      · exact q2 j (by omega) hj
    rcases q3 with q3 | ⟨i, q4, q5, q6⟩
    · subst q3; exact hR 0 t' h2 tk2 (by omega) q2' kk
    · subst q6; exact hR i t' h2 tk2 q5 q2' kk
end
section
variable {X : Cx}
def rMaxD (K : PySem.W.Frag) : List V → List V → Hp → VK → Prop := fun xs ks H Q => ∃ (p : Addr) (ns : List Int) (d : Int), xs = [.ref p] ∧ ks = [.int d] ∧ SqL K H p (ns.map V.int) ∧ (ns = [] → Q (.int d) H) ∧ (∀ M, M ∈ ns → (∀ a ∈ ns, a ≤ M) → Q (.int M) H)
theorem call_maxD (hc : X.calm = true) {pins : List (Addr × Obj)} {s : Shared} {σ : St} {H : Hp} {xs ks : List V} {us ws : List Value} {Q : VK} (I : Inv X pins σ H s) (r : Vals xs us) (rk : Vals ks ws) (h : rMaxD X.K xs ks H Q) :
    wpAny (model X.prog X.w) X.A (call (.builtin "max") us ([Str.ofString "default"].zip ws)) (EP X pins σ Q) X.xe s := by
  obtain ⟨p, ns, d, rfl, rfl, hp, h0, h1⟩ := h
  obtain ⟨u, rfl, ru⟩ := vals1 r
  obtain ⟨u2, rfl, t2, rfl⟩ := vals1 rk
  cases ru
  obtain ⟨its, rv, pl, _⟩ := I.list hp
  have hlen := rv.length
  rw [List.length_map] at hlen
  have hlt : p < s.heap.objs.size := by obtain ⟨_, e, _⟩ := pl.isList; exact Heap.lt_size e
  refine PyProof.Rows.kmk_tree PySem.F.kind_max PySem.F.plain_max PySem.F.entry_max (args_maxd _ _) ?_
  show wpAny _ X.A.in1 (Builtin.Builtins.bindParams "max" ["key", "default"] 0 ⟨[], [(Str.ofString "default", Value.int d t2)]⟩ >>= fun _ => _) _ _ s
  refine wpAny_bind (wpAny_of_eq (show Builtin.Builtins.bindParams "max" ["key", "default"] 0 ⟨[], [(Str.ofString "default", Value.int d t2)]⟩ = pure [none, some (Value.int d t2)] from rfl) ?_)
  refine wpAny_bind (wpAny_pure (wpAny_bind (wpAny_pyIter_list pl.isList (wpAny_bind (wpAny_newObj_type ?_ (Nat.zero_le _)))))); rw [nm_maxloop]
  have sz1 : ∀ o : Obj, (s.heap.push o).objs.size = s.heap.objs.size + 1 := fun o => Heap.size_push ..
  have fin : ∀ {M : Int} {t : Tok} {h' : Heap} {tk : Nat}, (∀ b o, b ∉ [s.heap.objs.size] → b ≠ (s.heap.push { cls := .type "list_iterator", data := .fields #[.ref p, .int 0 0] }).objs.size → ((s.heap.push { cls := .type "list_iterator", data := .fields #[.ref p, .int 0 0] }).push { cls := .type "list", data := .seq ([] : List Value).toArray }).get? b = some o → h'.get? b = some o) → Q (.int M) H → EP X pins σ Q (.int M t) { s with heap := h', toks := tk } := by
    intro M t h' tk hk q
    refine ⟨.int M, H, I.kept (t' := tk) fun b x ex => hk b x (fun hm => ?_) (fun e => ?_) (Heap.get?_push_of_some _ (Heap.get?_push_of_some _ ex)), ⟨_, rfl⟩, q⟩
    · rw [List.mem_singleton.mp hm] at ex; exact Nat.lt_irrefl _ (Heap.lt_size ex)
    · have l := Heap.lt_size ex
      rw [e] at l
      exact absurd l (by rw [sz1]; exact Nat.not_lt.mpr (Nat.le_succ _))
  refine wpAny_pure ⟨plainId_quiet PySem.F.plain_max_loop _, maxk_first (Walks.list (A := X.A.in1) (I.ok.hd hc) s.heap.objs.size p (Nat.ne_of_lt hlt) its.toArray) (fun i => (ns[i]?).getD 0) (fun i v e => ?_) (fun hm => ?_) _
    ⟨⟨_, Heap.get?_push_of_some _ (Heap.get?_push_size _ rfl), rfl, rfl⟩, (pl.isList.push _).push _⟩ (Heap.get?_push_size _ rfl) (fun hz h' tk hk => ?_) fun i t' h' tk hi hall hk => ?_⟩
  · have e' : its[i]? = some v := by simpa using e
    have hi : i < ns.length := by have := (List.getElem?_eq_some_iff.mp e').1; omega
    obtain ⟨y, ey, ry⟩ := rv.get (i := i) (x := .int ns[i]) (by rw [List.getElem?_map, List.getElem?_eq_getElem hi]; rfl)
    rw [e'] at ey
    cases ey
    rw [List.getElem?_eq_getElem hi]
    exact ry
  · rcases List.mem_cons.mp hm with e | hm
    · exact absurd ((sz1 _).symm.trans e) (Nat.succ_ne_self _)
    · exact absurd ((sz1 _).symm.trans (List.mem_singleton.mp hm)) (Nat.ne_of_gt (Nat.lt_succ_of_lt hlt))
  · rw [List.size_toArray] at hz
    exact fin hk (h0 (List.eq_nil_of_length_eq_zero (by omega)))
  · rw [List.size_toArray] at hi hall
    have hi' : i < ns.length := by omega
    have e1 : (ns[i]?).getD 0 = ns[i] := by rw [List.getElem?_eq_getElem hi']; rfl
    refine fin hk (h1 _ (by rw [e1]; exact List.getElem_mem hi') fun a ha => ?_)
    obtain ⟨j, hj, rfl⟩ := List.getElem_of_mem ha
    have := hall j (by omega)
    rwa [show (ns[j]?).getD 0 = ns[j] by rw [List.getElem?_eq_getElem hj]; rfl] at this
def tMaxD (K : PySem.W.Frag) (t tk : TA) : TE := fun σ H Q => t σ H fun vs H1 => tk σ H1 fun zs H2 => rMaxD K vs zs H2 Q
theorem pe_maxD {x : Str} {p pos kpos : Pos} {e v : Expr} {t tk : TA} (hc : X.calm = true) (hg : Gl X x) (hm : X.mg x = none) (hv : bootBuiltins x = some (.builtin "max")) (ha : PA X [e] t) (hkw : PK X [⟨some (Str.ofString "default"), v, kpos⟩] tk)
    (hn : x ≠ "__name__" := by decide) (hdb : (x == ("__debug__" : Str)) = false := by decide) (he : backTo pos (starEach [e] X.env) = (false, eval e X.env) :: backTo pos (starEach [] X.env) := by rfl) (hpl : (backTo pos (starEach [e] X.env)).any (·.1) = false := by rfl) :
    PE X (.Call (.Name x p) [e] [⟨some (Str.ofString "default"), v, kpos⟩] pos) (tMaxD X.K t tk) := by
  intro pins s σ H Q I h
  refine wpAny_Call_Name_kw (ld_blt I hg hm hv ?_ hn hdb)
  refine PyProof.Rows.callWith_kw (thn (ha pos pins s σ H _ I h) fun us s1 ⟨vs, H1, I1, r1, q1⟩ => thn (hkw pos pins s1 σ H1 _ I1 q1) fun ws s2 ⟨zs, H2, I2, r2, q2⟩ => ?_) he hpl
  exact call_maxD hc I2 r1 r2 q2
end
end L2
set_option Elab.async false
set_option linter.all false
set_option maxRecDepth 100000
set_option maxHeartbeats 1000000
namespace Trm
open PySem PySem.Spec PyProof.Rows L2
mutual
def TmAt (H : Hp) : V → Tm → Prop
  | v, .nm x => ∃ r, v = .ref r ∧ H r = some (.tup [.str "name", .str x])
  | v, .ap f ts => ∃ r q vs, v = .ref r ∧ H r = some (.tup [.str "call", .str f, .ref q]) ∧ H q = some (.tup vs) ∧ TmsAt H vs ts
def TmsAt (H : Hp) : List V → List Tm → Prop
  | vs, [] => vs = []
  | vs, t :: ts => ∃ v r, vs = v :: r ∧ TmAt H v t ∧ TmsAt H r ts
end
def Tup (H H' : Hp) : Prop := ∀ a xs, H a = some (.tup xs) → H' a = some (.tup xs)
theorem Tup.refl (H : Hp) : Tup H H := fun _ _ e => e
theorem Tup.trans {H H1 H2 : Hp} (a : Tup H H1) (b : Tup H1 H2) : Tup H H2 := fun x o e => b x o (a x o e)
theorem Tup.of_same {H H' : Hp} (s : Same H H') : Tup H H' := fun a xs e => s a _ e
theorem Tup.upd {H : Hp} {p : Addr} {o : HO} (h : ∀ xs, H p ≠ some (.tup xs)) : Tup H (upd H p o) := fun a xs e => by
  rw [upd_ne]
  · exact e
  · intro z
    subst z
    exact h xs e
mutual
theorem TmAt.mono {H H' : Hp} (k : Tup H H') : ∀ {v : V} {t : Tm}, TmAt H v t → TmAt H' v t
  | v, .nm x, h => by
    unfold TmAt at h ⊢
    obtain ⟨r, e, h⟩ := h
    exact ⟨r, e, k _ _ h⟩
  | v, .ap f ts, h => by
    unfold TmAt at h ⊢
    obtain ⟨r, q, vs, e, h1, h2, h3⟩ := h
    exact ⟨r, q, vs, e, k _ _ h1, k _ _ h2, TmsAt.mono k h3⟩
theorem TmsAt.mono {H H' : Hp} (k : Tup H H') : ∀ {vs : List V} {ts : List Tm}, TmsAt H vs ts → TmsAt H' vs ts
  | vs, [], h => by
    unfold TmsAt at h ⊢
    exact h
  | vs, t :: ts, h => by
    unfold TmsAt at h ⊢
    obtain ⟨v, r, e, h1, h2⟩ := h
    exact ⟨v, r, e, TmAt.mono k h1, TmsAt.mono k h2⟩
end
theorem TmsAt.nil {H : Hp} : TmsAt H [] [] := by unfold TmsAt; rfl
theorem TmsAt.cons {H : Hp} {v : V} {t : Tm} {vs : List V} {ts : List Tm} (h : TmAt H v t) (r : TmsAt H vs ts) : TmsAt H (v :: vs) (t :: ts) := by
  unfold TmsAt
  exact ⟨v, vs, rfl, h, r⟩
theorem TmsAt.inv {H : Hp} {t : Tm} {vs : List V} {ts : List Tm} (h : TmsAt H vs (t :: ts)) : ∃ v r, vs = v :: r ∧ TmAt H v t ∧ TmsAt H r ts := by
  unfold TmsAt at h
  exact h
theorem TmsAt.len {H : Hp} : ∀ {vs : List V} {ts : List Tm}, TmsAt H vs ts → vs.length = ts.length
  | vs, [], h => by
    unfold TmsAt at h
    rw [h]
    rfl
  | vs, t :: ts, h => by
    obtain ⟨v, r, e, _, h2⟩ := h.inv
    rw [e, List.length_cons, List.length_cons, h2.len]
theorem TmsAt.app {H : Hp} {ws : List V} {us : List Tm} (b : TmsAt H ws us) : ∀ {vs : List V} {ts : List Tm}, TmsAt H vs ts → TmsAt H (vs ++ ws) (ts ++ us)
  | vs, [], h => by
    unfold TmsAt at h
    subst h
    exact b
  | vs, t :: ts, h => by
    obtain ⟨v, r, e, h1, h2⟩ := h.inv
    subst e
    exact .cons h1 (TmsAt.app b h2)
theorem TmsAt.get {H : Hp} : ∀ {vs : List V} {ts : List Tm} {i : Nat} {t : Tm}, TmsAt H vs ts → ts[i]? = some t → ∃ v, vs[i]? = some v ∧ TmAt H v t
  | vs, [], i, t, _, e => by simp at e
  | vs, a :: ts, 0, t, h, e => by
    obtain ⟨v, r, rfl, h1, h2⟩ := h.inv
    simp at e
    subst e
    exact ⟨v, rfl, h1⟩
  | vs, a :: ts, i + 1, t, h, e => by
    obtain ⟨v, r, rfl, h1, h2⟩ := h.inv
    obtain ⟨u, e1, e2⟩ := h2.get (i := i) (by simpa using e)
    exact ⟨u, by simpa using e1, e2⟩
theorem TmsAt.get' {H : Hp} {vs : List V} {ts : List Tm} {i : Nat} {v : V} (h : TmsAt H vs ts) (e : vs[i]? = some v) : ∃ t, ts[i]? = some t ∧ TmAt H v t := by
  have hl := h.len
  have hi : i < vs.length := (List.getElem?_eq_some_iff.mp e).1
  obtain ⟨u, e1, e2⟩ := h.get (i := i) (t := ts[i]'(by omega)) (List.getElem?_eq_getElem _)
  rw [e] at e1
  cases e1
  exact ⟨_, List.getElem?_eq_getElem _, e2⟩
theorem TmsAt.drop {H : Hp} : ∀ {vs : List V} {ts : List Tm} (i : Nat), TmsAt H vs ts → TmsAt H (vs.drop i) (ts.drop i)
  | _, _, 0, h => h
  | vs, [], i + 1, h => by
    unfold TmsAt at h
    subst h
    exact .nil
  | vs, t :: ts, i + 1, h => by
    obtain ⟨v, r, rfl, h1, h2⟩ := h.inv
    exact TmsAt.drop i h2
theorem TmAt.ref {H : Hp} {v : V} {t : Tm} (h : TmAt H v t) : ∃ r, v = .ref r := by
  cases t with
  | nm x => unfold TmAt at h; obtain ⟨r, e, _⟩ := h; exact ⟨r, e⟩
  | ap f ts => unfold TmAt at h; obtain ⟨r, _, _, e, _⟩ := h; exact ⟨r, e⟩
mutual
theorem TmAt.det {H : Hp} : ∀ {v : V} {t u : Tm}, TmAt H v t → TmAt H v u → t = u
  | v, .nm x, .nm y, h1, h2 => by
    unfold TmAt at h1 h2
    obtain ⟨r, rfl, h1⟩ := h1
    obtain ⟨r', e, h2⟩ := h2
    cases e
    rw [h1] at h2
    cases h2
    rfl
  | v, .nm x, .ap g us, h1, h2 => by
    unfold TmAt at h1 h2
    obtain ⟨r, rfl, h1⟩ := h1
    obtain ⟨r', _, _, e, h2, _⟩ := h2
    cases e
    rw [h1] at h2
    cases h2
  | v, .ap f ts, .nm y, h1, h2 => by
    unfold TmAt at h1 h2
    obtain ⟨r', _, _, rfl, h1, _⟩ := h1
    obtain ⟨r, e, h2⟩ := h2
    cases e
    rw [h1] at h2
    cases h2
  | v, .ap f ts, .ap g us, h1, h2 => by
    unfold TmAt at h1 h2
    obtain ⟨r, q, vs, rfl, h1, h3, h4⟩ := h1
    obtain ⟨r', q', vs', e, h2, h5, h6⟩ := h2
    cases e
    rw [h1] at h2
    cases h2
    rw [h3] at h5
    cases h5
    rw [TmsAt.det h4 h6]
theorem TmsAt.det {H : Hp} : ∀ {vs : List V} {ts us : List Tm}, TmsAt H vs ts → TmsAt H vs us → ts = us
  | vs, [], [], _, _ => rfl
  | vs, [], u :: us, h1, h2 => by
    have a := h1.len
    have b := h2.len
    rw [a] at b
    simp at b
  | vs, t :: ts, [], h1, h2 => by
    have a := h1.len
    have b := h2.len
    rw [a] at b
    simp at b
  | vs, t :: ts, u :: us, h1, h2 => by
    obtain ⟨v, r, rfl, h3, h4⟩ := h1.inv
    obtain ⟨v', r', e, h5, h6⟩ := h2.inv
    cases e
    rw [TmAt.det h3 h5, TmsAt.det h4 h6]
end
section
variable {X : Cx} {pins : List (Addr × Obj)} {σ : L2.St} {H : Hp} {s : Shared} {A : Around}
theorem tup_eqAt {a b : Addr} {xs ys : List V} (I : Inv X pins σ H s) (ha : H a = some (.tup xs)) (hb : H b = some (.tup ys)) (hu : A.units < cLine) (e : Nat → Bool) (hne : a ≠ b)
    (he : ∀ j x y u v, xs[j]? = some x → ys[j]? = some y → RelV x u → RelV y v → SeqAt.EqAt A.in1 s u v (e j)) :
    SeqAt.EqAt A s (.ref a) (.ref b) ((List.range (min xs.length ys.length)).all e && xs.length == ys.length) := by
  obtain ⟨us, r1, p1, _⟩ := I.tuple (SqT.of ha)
  obtain ⟨ws, r2, p2, _⟩ := I.tuple (SqT.of hb)
  have l1 := r1.length
  have l2 := r2.length
  have := SeqAt.RcAt.tuples (A := A) (e := e) (show s.heap.IsTuple a us.toArray from p1) (show s.heap.IsTuple b ws.toArray from p2) hu fun j h1 h2 => by
    have h1' : j < us.length := by simpa using h1
    have h2' : j < ws.length := by simpa using h2
    obtain ⟨u, e1, q1⟩ := r1.get (i := j) (x := xs[j]'(by omega)) (List.getElem?_eq_getElem _)
    obtain ⟨v, e2, q2⟩ := r2.get (i := j) (x := ys[j]'(by omega)) (List.getElem?_eq_getElem _)
    have z1 : us.toArray[j] = u := by rw [List.getElem_toArray]; rw [List.getElem?_eq_getElem h1'] at e1; exact Option.some.inj e1
    have z2 : ws.toArray[j] = v := by rw [List.getElem_toArray]; rw [List.getElem?_eq_getElem h2'] at e2; exact Option.some.inj e2
    rw [z1, z2]
    exact he j _ _ u v (List.getElem?_eq_getElem _) (List.getElem?_eq_getElem _) q1 q2
  rw [List.size_toArray, List.size_toArray, ← l1, ← l2] at this
  exact SeqAt.EqAt.of_refs hne this
theorem str_eqAt {x y : Str} {u v : Value} (r1 : RelV (.str x) u) (r2 : RelV (.str y) v) : SeqAt.EqAt A s u v (x == y) := by
  obtain ⟨t, rfl⟩ := r1
  obtain ⟨t', rfl⟩ := r2
  exact SeqAt.EqAt.str_str x t y t'
theorem same_eqAt {v w : V} {a b : Value} {r : Addr} (e1 : v = .ref r) (e2 : w = .ref r) (r1 : RelV v a) (r2 : RelV w b) : SeqAt.EqAt A s a b true := by
  subst e1 e2
  cases r1
  cases r2
  exact SeqAt.EqAt.same _
theorem strs_eqAt {x y : Str} {u v : Value} {k : Bool} (r1 : RelV (.str x) u) (r2 : RelV (.str y) v) (e : (x == y) = k) : SeqAt.EqAt A s u v k := by
  subst e
  exact str_eqAt r1 r2
def e2 (x y : Str) : Nat → Bool
  | 0 => true
  | _ => x == y
def e3 (x y : Str) (k : Bool) : Nat → Bool
  | 0 => true
  | 1 => x == y
  | _ => k
open Classical in
theorem list_eqB {α : Type} (ts us : List α) : ((List.range (min ts.length us.length)).all (fun j => decide (ts[j]? = us[j]?)) && ts.length == us.length) = decide (ts = us) := by
  rw [Bool.eq_iff_iff, Bool.and_eq_true, List.all_eq_true, decide_eq_true_iff, beq_iff_eq]
  constructor
  · rintro ⟨h, hl⟩
    refine List.ext_getElem? fun j => ?_
    by_cases hj : j < ts.length
    · simpa using h j (List.mem_range.mpr (by omega))
    · rw [List.getElem?_eq_none (by omega), List.getElem?_eq_none (by omega)]
  · rintro rfl
    exact ⟨fun j _ => by simp, rfl⟩
def e0 (k : Bool) : Nat → Bool
  | 0 => false
  | _ => k
open Classical in
theorem tm_nm {x : Str} {u : Tm} {v w : V} {a b : Value} (I : Inv X pins σ H s) (h1 : TmAt H v (.nm x)) (h2 : TmAt H w u) (r1 : RelV v a) (r2 : RelV w b) (hu : A.units < cLine) : SeqAt.EqAt A s a b (decide (Tm.nm x = u)) := by
  have h1' := h1
  have h2' := h2
  unfold TmAt at h1
  obtain ⟨r, ev, g1⟩ := h1
  cases u with
  | nm y =>
    unfold TmAt at h2
    obtain ⟨r', ew, k1⟩ := h2
    by_cases z : r = r'
    · subst z
      rw [decide_eq_true (TmAt.det (ev ▸ h1') (ew ▸ h2'))]
      exact same_eqAt ev ew r1 r2
    · subst ev ew
      cases r1
      cases r2
      have := tup_eqAt I g1 k1 hu (e2 x y) z fun j p q u v m1 m2 q1 q2 => by
        match j, m1, m2 with
        | 0, m1, m2 => cases m1; cases m2; exact strs_eqAt q1 q2 (show (Str.ofString "name" == Str.ofString "name") = true by decide +kernel)
        | 1, m1, m2 => cases m1; cases m2; exact str_eqAt q1 q2
        | j + 2, m1, m2 => simp at m1
      have e : ((List.range (min [V.str "name", .str x].length [V.str "name", .str y].length)).all (e2 x y) && [V.str "name", V.str x].length == [V.str "name", V.str y].length) = decide (Tm.nm x = Tm.nm y) := by
        show ((true && ((x == y) && true)) && true) = _
        by_cases q : x = y
        · subst q; simp
        · have : ¬ Tm.nm x = Tm.nm y := fun h => q (by injection h)
          simp [q]
      rw [← e]
      exact this
  | ap g us =>
    unfold TmAt at h2
    obtain ⟨r', q, vs, ew, k1, _⟩ := h2
    have hne : r ≠ r' := fun z => by subst z; rw [g1] at k1; cases k1
    subst ev ew
    cases r1
    cases r2
    have := tup_eqAt I g1 k1 hu (e0 (x == g)) hne fun j p q u v m1 m2 q1 q2 => by
      match j, m1, m2 with
      | 0, m1, m2 => cases m1; cases m2; exact strs_eqAt q1 q2 (show (Str.ofString "name" == Str.ofString "call") = false by decide +kernel)
      | 1, m1, m2 => cases m1; cases m2; exact str_eqAt q1 q2
      | j + 2, m1, m2 => simp at m1
    have e : decide (Tm.nm x = Tm.ap g us) = false := by simp
    rw [e]
    exact this
open Classical in
theorem tm_eqAt (I : Inv X pins σ H s) : ∀ (n : Nat) {A : Around} {t u : Tm} {v w : V} {a b : Value}, t.depth ≤ n → TmAt H v t → TmAt H w u → RelV v a → RelV w b → A.units + 2 * n + 1 < cLine → SeqAt.EqAt A s a b (decide (t = u)) := by
  intro n
  induction n with
  | zero =>
    intro A t u v w a b hd h1 h2 r1 r2 hu
    cases t with
    | ap f ts => simp [Tm.depth] at hd
    | nm x => exact tm_nm I h1 h2 r1 r2 (by omega)
  | succ n ih =>
    intro A t u v w a b hd h1 h2 r1 r2 hu
    cases t with
    | nm x => exact tm_nm I h1 h2 r1 r2 (by omega)
    | ap f ts =>
      have h1' := h1
      have h2' := h2
      unfold TmAt at h1
      obtain ⟨r, q, vs, ev, g1, g2, g3⟩ := h1
      unfold Tm.depth at hd
      cases u with
      | nm y =>
        unfold TmAt at h2
        obtain ⟨r', ew, k1⟩ := h2
        have hne : r ≠ r' := fun z => by subst z; rw [g1] at k1; cases k1
        subst ev ew
        cases r1
        cases r2
        have := tup_eqAt I g1 k1 (show A.units < cLine by omega) (e0 (f == y)) hne fun j p q u v m1 m2 q1 q2 => by
          match j, m1, m2 with
          | 0, m1, m2 => cases m1; cases m2; exact strs_eqAt q1 q2 (show (Str.ofString "call" == Str.ofString "name") = false by decide +kernel)
          | 1, m1, m2 => cases m1; cases m2; exact str_eqAt q1 q2
          | j + 2, m1, m2 => simp at m2
        have e : decide (Tm.ap f ts = Tm.nm y) = false := by simp
        rw [e]
        exact this
      | ap g us =>
        unfold TmAt at h2
        obtain ⟨r', q', vs', ew, k1, k2, k3⟩ := h2
        by_cases z : r = r'
        · subst z
          rw [decide_eq_true (TmAt.det (ev ▸ h1') (ew ▸ h2'))]
          exact same_eqAt ev ew r1 r2
        · subst ev ew
          cases r1
          cases r2
          have inner : SeqAt.EqAt A.in1 s (.ref q) (.ref q') (decide (ts = us)) := by
            by_cases y : q = q'
            · subst y
              rw [g2] at k2
              cases k2
              rw [decide_eq_true (TmsAt.det g3 k3)]
              exact SeqAt.EqAt.same _
            · have := tup_eqAt (A := A.in1) I g2 k2 (show A.units + 1 < cLine by omega) (fun j => decide (ts[j]? = us[j]?)) y fun j p p' u v m1 m2 q1 q2 => by
                obtain ⟨t1, n1, a1⟩ := g3.get' m1
                obtain ⟨t2, n2, a2⟩ := k3.get' m2
                have := ih (A := A.in1.in1) (t := t1) (u := t2) (by have := depth_mem (List.mem_of_getElem? n1); omega) a1 a2 q1 q2 (by show A.units + 1 + 1 + 2 * n + 1 < cLine; omega)
                have e : decide (t1 = t2) = decide (ts[j]? = us[j]?) := by rw [n1, n2]; simp
                rw [← e]
                exact this
              rw [g3.len, k3.len, list_eqB] at this
              exact this
          have := tup_eqAt I g1 k1 (show A.units < cLine by omega) (e3 f g (decide (ts = us))) z fun j p p' u v m1 m2 q1 q2 => by
            match j, m1, m2 with
            | 0, m1, m2 => cases m1; cases m2; exact strs_eqAt q1 q2 (show (Str.ofString "call" == Str.ofString "call") = true by decide +kernel)
            | 1, m1, m2 => cases m1; cases m2; exact str_eqAt q1 q2
            | 2, m1, m2 => cases m1; cases m2; cases q1; cases q2; exact inner
            | j + 3, m1, m2 => simp at m1
          have e : ((List.range (min [V.str "call", .str f, .ref q].length [V.str "call", .str g, .ref q'].length)).all (e3 f g (decide (ts = us))) && [V.str "call", .str f, .ref q].length == [V.str "call", .str g, .ref q'].length) = decide (Tm.ap f ts = Tm.ap g us) := by
            show ((true && ((f == g) && (decide (ts = us) && true))) && true) = _
            by_cases p : f = g
            · by_cases p2 : ts = us
              · subst p p2; simp
              · simp [p, p2]
            · simp [p]
          rw [← e]
          exact this
open Classical in
def rCountT : V → List V → Hp → VK → Prop := fun x vs H Q => ∃ l ws ts v t, x = .ref l ∧ vs = [v] ∧ H l = some (.lst ws) ∧ TmsAt H ws ts ∧ TmAt H v t ∧ (∀ u ∈ ts, u.depth ≤ 4) ∧ (∀ c : Int, (c = 0 ↔ ¬ t ∈ ts) → Q (.int c) H)
open Classical in
theorem count_go (I : Inv X pins σ H s) {t : Tm} {v : V} {b : Value} (h : TmAt H v t) (rb : RelV v b) (hu : A.units + 9 < cLine) : ∀ {ws : List V} {ts : List Tm} {us : List Value}, TmsAt H ws ts → (∀ u ∈ ts, u.depth ≤ 4) → Vals ws us →
    ∃ e : Value → Bool, (∀ y ∈ us, SeqAt.EqAt A s y b (e y)) ∧ (us.countP e = 0 ↔ ¬ t ∈ ts) := by
  intro ws ts us hT hd r
  refine ⟨fun y => decide (∃ (j : Nat) (u : Tm), us[j]? = some y ∧ ts[j]? = some u ∧ u = t), fun y hy => ?_, ?_⟩
  · obtain ⟨j, hj, rfl⟩ := List.getElem_of_mem hy
    have hl := r.length
    have hl2 := hT.len
    obtain ⟨v', e1, a1⟩ := hT.get (i := j) (t := ts[j]'(by omega)) (List.getElem?_eq_getElem _)
    obtain ⟨y', e2, q2⟩ := r.get e1
    rw [List.getElem?_eq_getElem hj] at e2
    have e2' := Option.some.inj e2
    have := tm_eqAt (A := A) I 4 (hd _ (List.getElem_mem (by omega))) a1 h q2 rb (by omega)
    rw [← e2'] at this
    have e : decide (ts[j]'(by omega) = t) = decide (∃ (j' : Nat) (u : Tm), us[j']? = some us[j] ∧ ts[j']? = some u ∧ u = t) := by
      rw [decide_eq_decide]
      constructor
      · intro z
        exact ⟨j, _, List.getElem?_eq_getElem _, List.getElem?_eq_getElem _, z⟩
      · rintro ⟨j', u, m1, m2, rfl⟩
        obtain ⟨w, n1, n2⟩ := hT.get m2
        obtain ⟨z, n3, n4⟩ := r.get n1
        rw [m1] at n3
        cases n3
        obtain ⟨r1, er1⟩ := n2.ref
        obtain ⟨r2, er2⟩ := a1.ref
        subst er1 er2
        have z1 : us[j] = Value.ref r1 := n4
        have z2 : us[j] = Value.ref r2 := e2' ▸ q2
        rw [z1] at z2
        cases z2
        exact TmAt.det a1 n2
    dsimp only
    rw [← e]
    exact this
  · rw [List.countP_eq_zero]
    have hl := r.length
    have hl2 := hT.len
    constructor
    · intro z m
      obtain ⟨j, hj, e⟩ := List.getElem_of_mem m
      refine z (us[j]'(by omega)) (List.getElem_mem _) ?_
      rw [decide_eq_true_iff]
      exact ⟨j, ts[j], List.getElem?_eq_getElem _, List.getElem?_eq_getElem _, e⟩
    · intro z y hy m
      rw [decide_eq_true_iff] at m
      obtain ⟨j, u, _, m2, rfl⟩ := m
      exact z (List.mem_of_getElem? m2)
theorem mt_countT (hu : X.A.units + 10 < cLine) : MtM X "list.count" rCountT := by
  intro pins s σ H x vs v us Q I rx rv h
  obtain ⟨l, ws, ts, y, t, rfl, rfl, hH, hT, ht, hd, q⟩ := h
  cases rx
  obtain ⟨b, rfl, rb⟩ := rv.one
  obtain ⟨z, its, n, r, hl, e⟩ := I.lstM hH
  obtain ⟨f, h1, h2⟩ := count_go (A := X.A.in1) I ht rb (by show X.A.units + 1 + 9 < cLine; omega) hT hd r
  refine call_meets PySem.F.slot_list_count ⟨_, e, rfl⟩ PySem.F.entry_list_count (PySem.F.args_list_count_2 _ _) (SeqAt.list_countAt l its.toArray n _ _ b f) ⟨e, fun y hy => h1 y (by simpa using hy), ?_⟩
  refine ⟨.int _, H, I.tok _, ⟨_, rfl⟩, q _ ?_⟩
  have el : its.toArray.toList = its := by simp
  rw [el, ← h2]
  omega
end
end Trm
set_option Elab.async false
set_option linter.all false
set_option maxRecDepth 100000
set_option maxHeartbeats 1000000
namespace K06
open PySem L2 Trm
def top (i : Nat) : Stmt := PySem.Challenge.pw_smallword_k06_within_and_depth.main.body.getD i (.Pass ⟨0, 0, 0, 0⟩)
abbrev sBr : Stmt := top 1
abbrev sSt : Stmt := top 2
abbrev sTr : Stmt := top 4
abbrev sWi : Stmt := top 5
abbrev sGa : Stmt := top 6
abbrev sDo : Stmt := top 7
abbrev sFeed : Stmt := top 9
abbrev sDraw : Stmt := top 10
abbrev sNames : Stmt := top 11
abbrev sTerm : Stmt := top 12
abbrev sSame : Stmt := top 13
abbrev sAll : Stmt := top 14
abbrev sFirsts : Stmt := top 15
abbrev sDeep : Stmt := top 16
abbrev sLaw : Stmt := top 17
section
variable {P : Program} {w : World} {K : PySem.W.Frag} {mg : Str → Option Value} {base : Heap}
structure Blt (mg : Str → Option Value) : Prop where
  le : mg "len" = none
  ra : mg "range" = none
  isi : mg "isinstance" = none
  tu : mg "tuple" = none
  it : mg "int" = none
  bo : mg "bool" = none
  li : mg "list" = none
  su : mg "sum" = none
  st : mg "str" = none
  al : mg "all" = none
  mx : mg "max" = none
def spBr (K : PySem.W.Frag) : Sp := fun vs H Q _ => ∃ (l : Addr) (ys : List Str), vs = [.ref l] ∧ SqL K H l (ys.map V.str) ∧ (ys.map (·.length)).sum + ys.length ≤ 100000 ∧ Q (.str (Str.ofString "(" ++ Txt.join (Str.ofString " ") ys ++ Str.ofString ")")) H
theorem scBr : FnScope ["words"] ["words"] (defScope sBr) := ⟨rfl, rfl, rfl, by decide +kernel, rfl, by decide +kernel, by decide +kernel⟩
theorem len_app (x y : Str) : (x ++ y).length = x.length + y.length := by rw [← cl_len, cl_app, List.length_append, cl_len, cl_len]
theorem len_join (ys : List Str) : (Txt.join (Str.ofString " ") ys).length ≤ (ys.map (·.length)).sum + ys.length := by
  have h : Txt.join (Str.ofString " ") ys = Str.join (Str.ofString " ") ys := StrLaws.glued_eq_join _ _
  have := StrLaws.join_length_le (Str.ofString " ") ys
  have e : (Str.ofString " ").length = 1 := by decide +kernel
  rw [h]
  rw [e, Nat.mul_one] at this
  exact this
theorem ok_br {f : Addr} {fd : FuncData} (F : Fun K "bracketed" "bracketed" sBr f fd) : FnOk P w K mg base CX0 1 f fd ["words"] (spBr K) := by
  refine F.ok scBr (fun vs H Q E h => ?_) (fun cdv A outer s H vs Q E hr h => ?_)
  · obtain ⟨l, ys, rfl, _⟩ := h
    rfl
  obtain ⟨l, ys, rfl, hl, hz, k⟩ := h
  refine ⟨_, pss_one (ps_ret (pe_op op_add_str (pe_op op_add_str pe_str (pe_bm PySem.F.plainAttrs_str PySem.F.slot_str_join PySem.F.type_str_join mt_join pe_str (pa_cons (pv 0) pa_nil))) pe_str)), ?_⟩
  have e1 : (Str.ofString " ").length = 1 := by decide +kernel
  have e2 : (Str.ofString "(").length = 1 := by decide +kernel
  have e3 : (Str.ofString ")").length = 1 := by decide +kernel
  have hj := len_join ys
  have hL : (200000 : Nat) ≤ sizeLine := by decide +kernel
  refine ⟨rfl, _, rfl, _, l, ys, rfl, rfl, hl, by rw [e1]; omega, _, _, rfl, rfl, by rw [e2]; omega, _, _, rfl, rfl, by rw [len_app, e2, e3]; omega, k⟩
theorem FnOk.no {CX : CXT} {k : Nat} {f : Addr} {fd : FuncData} {ps : List Str} {sp : Sp} (h : ∀ vs H Q E, ¬ sp vs H Q E) : FnOk P w K mg base CX k f fd ps sp :=
  ⟨fun vs H Q E z => (h vs H Q E z).elim, fun A outer s H args us vs Q E _ _ _ _ z => (h vs H Q E z).elim⟩
def spSt (n : Nat) : Sp := fun vs H Q _ => ∃ (v : V) (t : Tm), vs = [v] ∧ TmAt H v t ∧ t.Wf ∧ t.depth < n ∧ n ≤ 5 ∧ ∀ H', Same H H' → Q (.str t.shown) H'
theorem scSt : FnScope ["term"] ["term"] (defScope sSt) := ⟨rfl, rfl, rfl, by decide +kernel, rfl, by decide +kernel, by decide +kernel⟩
theorem same_upd {H : Hp} {p : Addr} {o : HO} (h : H p = none) : Same H (upd H p o) := fun b u e => by
  rw [upd_ne (ne_of_none e h)]
  exact e
theorem same_wr {H H' : Hp} {D : Addr} {o : HO} (h : H D = none) (s : Same H H') : Same H (upd H' D o) := fun b u e => by
  rw [upd_ne (ne_of_none e h)]
  exact s b u e
theorem shown_ap (f : Str) (ts : List Tm) : (Tm.ap f ts).shown = Str.ofString "(" ++ Txt.join (Str.ofString " ") (f :: ts.map Tm.shown) ++ Str.ofString ")" := by
  rw [← shown_map]
  simp [Tm.shown]
theorem nd1 (x : Str) : [x].Nodup := by simp
theorem small_shown {f : Str} {ts : List Tm} {n : Nat} (w : (Tm.ap f ts).Wf) (h : (Tm.ap f ts).depth < n) (hn : n ≤ 5) : ((f :: ts.map Tm.shown).map (·.length)).sum + (f :: ts.map Tm.shown).length ≤ 100000 := by
  unfold Tm.Wf at w
  unfold Tm.depth at h
  have h1 := codes_len (n := 3) w.2.2.2 (by omega)
  have h2 := showns_sum ts
  have h3 : ts.length * (20 * 4 ^ 3 + 1) ≤ 3 * (20 * 4 ^ 3 + 1) := Nat.mul_le_mul_right _ w.2.2.1
  have h8 := w.1.le
  simp only [List.map_cons, List.sum_cons, List.length_cons, List.length_map]
  have : 3 * (20 * 4 ^ 3 + 1) ≤ 4000 := by decide
  have := w.2.2.1
  omega
theorem take_map_succ {α β : Type} {g : α → β} {ts : List α} {i : Nat} {t : α} (e : ts[i]? = some t) : (ts.take (i + 1)).map g = (ts.take i).map g ++ [g t] := by
  rw [List.take_add_one, e]
  simp
theorem ok_st {f fB : Addr} {fd fdB : FuncData} (F : Fun K "shown_term" "shown_term" sSt f fd) (bF : Binds K fd ["term"] []) (mF : mg "shown_term" = some (.ref f)) (FB : Fun K "bracketed" "bracketed" sBr fB fdB) (bB : Binds K fdB ["words"] []) (mB : mg "bracketed" = some (.ref fB)) :
    ∀ n, FnOk P w K mg base CX0 (n + 1) f fd ["term"] (spSt n) := by
  have GB : FnOk P w K mg base CX0 1 fB fdB ["words"] (spBr K) := ok_br FB
  intro n
  induction n with
  | zero => exact FnOk.no fun vs H Q E ⟨_, _, _, _, _, h, _⟩ => by omega
  | succ n ih =>
    refine F.ok scSt (fun vs H Q E h => ?_) (fun cdv A outer s H vs Q E hr h => ?_)
    · obtain ⟨v, t, rfl, _⟩ := h
      rfl
    obtain ⟨v, t, rfl, hv, hw, hd, hn, k⟩ := h
    have hr1 : Room 1 _ := hr.mono (by omega)
    refine ⟨_, pss_cons (ps_if (pt_cmpR op_eq (pe_ix ix_tup (pv 0) pe_int fun _ _ => rfl) pe_str (nomark _)) (pss_one (ps_ret (pe_ix ix_tup (pv 0) pe_int fun _ _ => rfl))) pss_nil)
      (pss_one (ps_ret (pe_call GB hr1 rfl mB FB.kp bB .nil pass0 (pa_cons (pe_op op_cat (pe_lst (pa_cons (pe_ix ix_tup (pv 0) pe_int fun _ _ => rfl) pa_nil))
        (pe_comp (NC := ["inner"]) (mp := [none]) rfl (pi_tup (pe_ix ix_tup (pv 0) pe_int fun _ _ => rfl)) (fun _ _ _ _ _ => pg_name (i := 0) (nd1 _) rfl (Or.inl rfl)) (fun _ _ _ _ _ => pts_nil) (fun _ _ _ _ _ => pe_call ih hr rfl mF F.kp bF .nil pass0 (pa_cons (pv 0) pa_nil)))) pa_nil)))), ?_⟩
    cases t with
    | nm x =>
      unfold TmAt at hv
      obtain ⟨r, rfl, h1⟩ := hv
      refine ⟨_, rfl, r, _, 0, .str "name", rfl, rfl, SqT.of h1, rfl, rfl, _, rfl, ?_⟩
      rw [decide_eq_true rfl]
      refine iteT ⟨_, rfl, r, _, 1, .str x, rfl, rfl, SqT.of h1, rfl, ?_⟩
      exact k H (Same.refl H)
    | ap g ts =>
      have hsm := small_shown hw hd hn
      have hw' := hw
      unfold TmAt at hv
      unfold Tm.Wf at hw'
      obtain ⟨r, q, vs, rfl, h1, h2, h3⟩ := hv
      refine ⟨_, rfl, r, _, 0, .str "call", rfl, rfl, SqT.of h1, rfl, rfl, _, rfl, ?_⟩
      rw [decide_eq_false (show ¬ V.str "call" = V.str "name" by decide +kernel)]
      refine iteF ?_
      refine ⟨_, rfl, r, _, 1, .str g, rfl, rfl, SqT.of h1, rfl, by show 1 ≤ sizeLine; decide, fun l nl => ?_⟩
      have s1 : Same H (upd H l (.lst [.str g])) := same_upd nl
      refine tcomp_of rfl ?_
      refine ⟨_, rfl, r, _, 2, .ref q, rfl, rfl, SqT.of (s1 _ _ h1), rfl, q, rfl, ⟨vs, SqT.of (s1 _ _ h2)⟩, fun D nD => ?_⟩
      have hlen := h3.len
      have hL : (10 : Nat) ≤ sizeLine := by decide +kernel
      refine comp_tup (xs := vs) (fun i acc H' => Same (upd H l (.lst [.str g])) H' ∧ H' D = some (.lst acc) ∧ acc = (ts.take i).map fun t => V.str t.shown) ⟨same_upd nD, upd_same, rfl⟩ (fun i acc H' p => SqT.of (p.1 _ _ (s1 _ _ h2))) ?_ ?_
      · rintro i x acc H' hi ex ⟨sH, hD, rfl⟩
        obtain ⟨t, et, ht⟩ := h3.get' ex
        have mt := List.mem_of_getElem? et
        refine ⟨_, rfl, x, t, rfl, ht.mono ((Tup.of_same s1).trans (Tup.of_same sH)), wf_mem hw'.2.2.2 t mt, ?_, by omega, fun H6 s6 => CompN.mk hi ?_ (s6 _ _ hD) ⟨same_wr nD (sH.trans s6), upd_same, (take_map_succ et).symm⟩⟩
        · have := depth_mem mt
          unfold Tm.depth at hd
          omega
        · rw [List.length_map, List.length_take]
          omega
      · rintro acc H' ⟨sH, hD, rfl⟩
        rw [hlen, List.take_length] at hD
        have hl' : H' l = some (.lst [.str g]) := sH _ _ upd_same
        refine ⟨l, D, [.str g], _, rfl, rfl, hl', hD, by simp only [List.length_map, List.length_cons, List.length_nil]; omega, fun p np => ?_⟩
        refine ⟨p, g :: ts.map Tm.shown, rfl, SqL.of ?_, hsm, ?_⟩
        · rw [upd_same]
          simp [List.map_map, Function.comp_def]
        · rw [← shown_ap]
          exact k _ (s1.trans (sH.trans (same_upd np)))
end
end K06
set_option Elab.async false
set_option linter.all false
set_option maxRecDepth 100000
set_option maxHeartbeats 1000000
namespace K06
open PySem L2 Trm
def DictIs (H : Hp) (kvs : List (Key × V)) (acc : List Tm) : Prop := kvs.map (·.1) = acc.map (fun t => (Sum.inr t.shown : Key)) ∧ TmsAt H (kvs.map (·.2)) acc
def But1 (d : Addr) (H H' : Hp) : Prop := ∀ x o, x ≠ d → H x = some o → H' x = some o
theorem But1.trans {d : Addr} {H H1 H2 : Hp} (a : But1 d H H1) (b : But1 d H1 H2) : But1 d H H2 := fun x o n e => b x o n (a x o n e)
theorem But1.of_same {d : Addr} {H H' : Hp} (s : Same H H') : But1 d H H' := fun x o _ e => s x o e
theorem But1.tup {d : Addr} {H H' : Hp} {kvs : List (Key × V)} (hd : H d = some (.dK kvs)) (b : But1 d H H') : Tup H H' := fun a xs e => b a _ (fun z => by subst z; rw [hd] at e; cases e) e
theorem But1.free {d : Addr} {H H' : Hp} {o : HO} (hd : H d = some o) (b : But1 d H H') {x : Addr} (h : H' x = none) (hx : H' d ≠ none) : H x = none := by
  cases e : H x with
  | none => rfl
  | some u =>
    by_cases z : x = d
    · rw [z] at h; exact absurd h hx
    · rw [b x u z e] at h; cases h
theorem DictIs.mono {H H' : Hp} {kvs : List (Key × V)} {acc : List Tm} (h : DictIs H kvs acc) (k : Tup H H') : DictIs H' kvs acc := ⟨h.1, h.2.mono k⟩
theorem DictIs.len {H : Hp} {kvs : List (Key × V)} {acc : List Tm} (h : DictIs H kvs acc) : kvs.length = acc.length := by
  have := congrArg List.length h.1
  simpa using this
theorem DictIs.none_iff {H : Hp} {kvs : List (Key × V)} {acc : List Tm} (h : DictIs H kvs acc) (hw : Tms.Wf acc) {t : Tm} (ht : t.Wf) : valV kvs (Sum.inr t.shown) = none ↔ ¬ t ∈ acc := by
  have e := valV_any (Sum.inr t.shown : Key) kvs
  have e2 : (kvs.any fun kv => decide (kv.1 = (Sum.inr t.shown : Key))) = true ↔ t ∈ acc := by
    rw [List.any_eq_true]
    constructor
    · rintro ⟨p, hp, q⟩
      have q' := of_decide_eq_true q
      have : p.1 ∈ kvs.map (·.1) := List.mem_map_of_mem hp
      rw [h.1] at this
      obtain ⟨u, hu, eu⟩ := List.mem_map.mp this
      rw [q'] at eu
      have := shown_inj (wf_mem hw u hu) ht (Sum.inr.inj eu)
      rw [← this]
      exact hu
    · intro m
      have : (Sum.inr t.shown : Key) ∈ kvs.map (·.1) := by
        rw [h.1]
        exact List.mem_map_of_mem (f := fun t : Tm => (Sum.inr t.shown : Key)) m
      obtain ⟨p, hp, q⟩ := List.mem_map.mp this
      exact ⟨p, hp, decide_eq_true q⟩
  rw [← e2, e]
  cases valV kvs (Sum.inr t.shown : Key) <;> simp
theorem alls_wf : ∀ {ts : List Tm}, Tms.Wf ts → ∀ u ∈ Tms.all ts, u.Wf
  | [], _, u, h => by simp [Tms.all] at h
  | t :: ts, w, u, h => by
    unfold Tms.Wf at w
    simp only [Tms.all, List.mem_append] at h
    rcases h with h | h
    · exact (all_wf1 t.depth (Nat.le_refl _) w.1 u h).1
    · exact alls_wf w.2 u h
theorem firsts_wf : ∀ {ts acc : List Tm}, Tms.Wf acc → (∀ u ∈ ts, u.Wf) → Tms.Wf (firsts acc ts)
  | [], acc, h, _ => h
  | t :: ts, acc, h, w => by
    rw [firsts_cons]
    exact firsts_wf (add_wf h (w t List.mem_cons_self)) fun u m => w u (List.mem_cons_of_mem _ m)
theorem wf_take {ts : List Tm} (w : Tms.Wf ts) (i : Nat) : Tms.Wf (ts.take i) := wf_of fun t m => wf_mem w t (List.mem_of_mem_take m)
theorem all_take_succ {ts : List Tm} {i : Nat} {t : Tm} (e : ts[i]? = some t) : Tms.all (ts.take (i + 1)) = Tms.all (ts.take i) ++ t.all := by
  rw [List.take_add_one, e, all_app]
  simp [Tms.all]
theorem all_take_le (ts : List Tm) (i : Nat) : (Tms.all (ts.take i)).length ≤ (Tms.all ts).length := by
  have := all_app (ts.take i) (ts.drop i)
  rw [List.take_append_drop] at this
  rw [this, List.length_append]
  omega
theorem kids_len (t : Tm) : (Tms.all t.kids).length + 1 = t.all.length := by rw [all_kids]; simp
section
variable {P : Program} {w : World} {K : PySem.W.Frag} {mg : Str → Option Value} {base : Heap}
def spTr : Sp := fun vs H Q _ => ∃ (v : V) (t : Tm), vs = [v] ∧ TmAt H v t ∧ ∀ l ws, H l = none → TmsAt H ws t.kids → Q (.ref l) (upd H l (.lst ws))
theorem scTr : FnScope ["term"] ["term"] (defScope sTr) := ⟨rfl, rfl, rfl, by decide +kernel, rfl, by decide +kernel, by decide +kernel⟩
theorem ok_tr {f : Addr} {fd : FuncData} (F : Fun K "terms_right_in" "terms_right_in" sTr f fd) (B : Blt mg) : FnOk P w K mg base CX0 1 f fd ["term"] spTr := by
  refine F.ok scTr (fun vs H Q E h => ?_) (fun cdv A outer s H vs Q E hr h => ?_)
  · obtain ⟨v, t, rfl, _⟩ := h
    rfl
  obtain ⟨v, t, rfl, hv, k⟩ := h
  refine ⟨_, pss_one (ps_ret (pe_ifExp (pt_cmpR op_eq (pe_ix ix_tup (pv 0) pe_int fun _ _ => rfl) pe_str (nomark _)) (pe_callTy call_list_of rfl B.li PyProof.Rows.boot_list (pa_cons (pe_ix ix_tup (pv 0) pe_int fun _ _ => rfl) pa_nil)) (pe_lst pa_nil))), ?_⟩
  cases t with
  | nm x =>
    unfold TmAt at hv
    obtain ⟨r, rfl, h1⟩ := hv
    refine ⟨_, rfl, r, _, 0, .str "name", rfl, rfl, SqT.of h1, rfl, rfl, _, rfl, ?_⟩
    rw [decide_eq_false (show ¬ V.str "name" = V.str "call" by decide +kernel)]
    exact iteF ⟨by show 0 ≤ sizeLine; decide, fun l nl => k l [] nl (by unfold Tm.kids; exact .nil)⟩
  | ap g ts =>
    unfold TmAt at hv
    obtain ⟨r, q, vs, rfl, h1, h2, h3⟩ := hv
    refine ⟨_, rfl, r, _, 0, .str "call", rfl, rfl, SqT.of h1, rfl, rfl, _, rfl, ?_⟩
    rw [decide_eq_true rfl]
    exact iteT ⟨_, rfl, r, _, 2, .ref q, rfl, rfl, SqT.of h1, rfl, q, vs, rfl, .inr (SqT.of h2), fun l nl => k l vs nl h3⟩
mutual
theorem all_trans : ∀ {t u x : Tm}, u ∈ t.all → x ∈ u.all → x ∈ t.all
  | .nm y, u, x, h, hx => by
    simp only [Tm.all, List.mem_singleton] at h
    subst h
    exact hx
  | .ap f ts, u, x, h, hx => by
    simp only [Tm.all, List.mem_append, List.mem_singleton] at h ⊢
    rcases h with h | h
    · exact .inl (alls_trans h hx)
    · subst h
      simpa only [Tm.all, List.mem_append, List.mem_singleton] using hx
theorem alls_trans : ∀ {ts : List Tm} {u x : Tm}, u ∈ Tms.all ts → x ∈ u.all → x ∈ Tms.all ts
  | [], u, x, h, _ => by simp [Tms.all] at h
  | t :: ts, u, x, h, hx => by
    simp only [Tms.all, List.mem_append] at h ⊢
    rcases h with h | h
    · exact .inl (all_trans h hx)
    · exact .inr (alls_trans h hx)
end
theorem mem_add {acc : List Tm} {t u : Tm} : u ∈ add acc t ↔ u ∈ acc ∨ u = t := by
  by_cases m : t ∈ acc
  · rw [add_in m]
    exact ⟨.inl, fun h => h.elim id fun e => by rw [e]; exact m⟩
  · rw [add_out m]
    simp
theorem mem_fst : ∀ {ts acc : List Tm} {u : Tm}, u ∈ firsts acc ts ↔ u ∈ acc ∨ u ∈ ts
  | [], acc, u => by simp [firsts_nil]
  | t :: ts, acc, u => by
    rw [firsts_cons, mem_fst, mem_add, List.mem_cons]
    constructor
    · rintro ((h | h) | h)
      · exact .inl h
      · exact .inr (.inl h)
      · exact .inr (.inr h)
    · rintro (h | h | h)
      · exact .inl (.inl h)
      · exact .inl (.inr h)
      · exact .inr h
theorem firsts_sub : ∀ {ts acc : List Tm}, (∀ u ∈ ts, u ∈ acc) → firsts acc ts = acc
  | [], acc, _ => rfl
  | t :: ts, acc, h => by
    rw [firsts_cons, add_in (h t List.mem_cons_self)]
    exact firsts_sub fun u m => h u (List.mem_cons_of_mem _ m)
def Clo (acc : List Tm) : Prop := ∀ u ∈ acc, ∀ x ∈ u.all, x ∈ acc
theorem Clo.nil : Clo [] := fun u h => by cases h
theorem Clo.kids {acc : List Tm} (c : Clo acc) (ts : List Tm) : Clo (firsts acc (Tms.all ts)) := fun u hu x hx => by
  rcases mem_fst.mp hu with h | h
  · exact mem_fst.mpr (.inl (c u h x hx))
  · exact mem_fst.mpr (.inr (alls_trans h hx))
theorem self_out {t : Tm} (hw : t.Wf) : ¬ t ∈ Tms.all t.kids := by
  intro h
  have : ∀ {ts : List Tm} {n : Nat}, Tms.Wf ts → Tms.depth ts ≤ n → ∀ u ∈ Tms.all ts, u.depth ≤ n := by
    intro ts n
    induction ts with
    | nil => intro _ _ u m; simp [Tms.all] at m
    | cons t ts ih =>
      intro w h u m
      unfold Tms.Wf at w
      unfold Tms.depth at h
      simp only [Tms.all, List.mem_append] at m
      rcases m with m | m
      · exact (all_wf1 n (by omega) w.1 u m).2
      · exact ih w.2 (by omega) u m
  have h1 := this (wf_kids hw) (Nat.le_refl _) t h
  have h2 := depth_kids hw
  rw [if_neg (fun z => by rw [z] at h; simp [Tms.all] at h)] at h2
  omega
def spGa (n : Nat) : Sp := fun vs H Q _ => ∃ (v : V) (t : Tm) (d : Addr) (kvs : List (Key × V)) (acc : List Tm), vs = [v, .ref d] ∧ TmAt H v t ∧ t.Wf ∧ t.depth < n ∧ n ≤ 5 ∧ H d = some (.dK kvs) ∧ DictIs H kvs acc ∧ Tms.Wf acc ∧ Clo acc ∧ acc.length + t.all.length ≤ 10000 ∧
  ∀ H' kvs', But1 d H H' → H' d = some (.dK kvs') → DictIs H' kvs' (firsts acc t.all) → Q .non H'
theorem scGa : FnScope ["term", "found", "text", "inner"] ["term", "found"] (defScope sGa) := ⟨rfl, rfl, rfl, by decide +kernel, rfl, by decide +kernel, by decide +kernel⟩
theorem ok_ga {f fT fS : Addr} {fd fdT fdS : FuncData} (F : Fun K "gather_terms" "gather_terms" sGa f fd) (bF : Binds K fd ["term", "found"] []) (mF : mg "gather_terms" = some (.ref f))
    (GT : FnOk P w K mg base CX0 1 fT fdT ["term"] spTr) (kT : PySem.W.keepIn K (.ref fT) = true) (bT : Binds K fdT ["term"] []) (mT : mg "terms_right_in" = some (.ref fT))
    (GS : ∀ n, FnOk P w K mg base CX0 (n + 1) fS fdS ["term"] (spSt n)) (kS : PySem.W.keepIn K (.ref fS) = true) (bS : Binds K fdS ["term"] []) (mS : mg "shown_term" = some (.ref fS)) :
    ∀ n, FnOk P w K mg base CX0 (n + 3) f fd ["term", "found"] (spGa n) := by
  intro n
  induction n with
  | zero => exact FnOk.no fun vs H Q E ⟨_, _, _, _, _, _, _, _, h, _⟩ => by omega
  | succ n ih =>
    refine F.ok scGa (fun vs H Q E h => ?_) (fun cdv A outer s H vs Q E hr h => ?_)
    · obtain ⟨v, t, d, kvs, acc, rfl, _⟩ := h
      rfl
    obtain ⟨v, t, d, kvs, acc, rfl, hv, hw, hdp, hn, hd, hD, hacc, hcl, hsz, k⟩ := h
    have hr1 : Room 1 _ := hr.mono (by omega)
    have hrS : Room (n + 1 + 1) _ := hr.mono (by omega)
    have hu1 := hu_of hr
    refine ⟨_, pss_cons (ps_set (i := 2) scGa.nd rfl (Or.inl rfl) (pe_call (GS (n + 1)) hrS rfl mS kS bS .nil pass0 (pa_cons (pv 0) pa_nil)))
      (pss_one (ps_if (pt_cmp (pc_dnotin hu1 (pv 2) (pv 1)))
        (pss_cons (ps_for PassesOwn.never rfl (pi_list (pe_call GT hr1 rfl mT kT bT .nil pass0 (pa_cons (pv 0) pa_nil))) (pg_name (i := 3) scGa.nd rfl (Or.inl rfl)) (pss_one (ps_expr (pe_call ih hr rfl mF F.kp bF .nil pass0 (pa_cons (pv 3) (pa_cons (pv 1) pa_nil))))))
        (pss_one (ps_dput hu1 (pv 1) (pv 2) (pv 0) rfl))) pss_nil)), ?_⟩
    have hkl := kids_len t
    have hL : (20000 : Nat) ≤ sizeLine := by decide +kernel
    refine ⟨_, rfl, v, t, rfl, hv, hw, hdp, hn, fun H0 s0 => ?_⟩
    have hd0 := s0 _ _ hd
    have hD0 := hD.mono (Tup.of_same s0)
    refine ⟨_, rfl, _, rfl, d, _, rfl, DGet.k (k := Sum.inr t.shown) hd0, _, rfl, ?_⟩
    by_cases mt : t ∈ acc
    · have nz : valV kvs (Sum.inr t.shown : Key) ≠ none := fun z => (hD0.none_iff hacc hw).mp z mt
      have e : (!(valV kvs (Sum.inr t.shown : Key)).isSome) = false := by
        cases z : valV kvs (Sum.inr t.shown : Key) with
        | none => exact absurd z nz
        | some y => rfl
      rw [e]
      refine iteF ?_
      refine k H0 kvs (But1.of_same s0) hd0 ?_
      rw [firsts_sub (hcl t mt)]
      exact hD0
    · have e : (!(valV kvs (Sum.inr t.shown : Key)).isSome) = true := by rw [(hD0.none_iff hacc hw).mpr mt]; rfl
      rw [e]
      refine iteT ?_
      refine ⟨_, rfl, v, t, rfl, hv.mono (Tup.of_same s0), fun l ws nl hws => ⟨l, rfl, ⟨ws, SqL.of upd_same⟩, ?_⟩⟩
      have ldn : l ≠ d := fun z => by rw [z, hd0] at nl; cases nl
      have s1 : Same H (upd H0 l (.lst ws)) := s0.trans (same_upd nl)
      have hd1 : (upd H0 l (.lst ws)) d = some (.dK kvs) := s1 _ _ hd
      have hlen := hws.len
      refine for_list (xs := ws) (fun i σ H' => (∃ vi, σ = [some v, some (.ref d), some (.str t.shown), vi]) ∧ But1 d (upd H0 l (.lst ws)) H' ∧ ∃ kvs', H' d = some (.dK kvs') ∧ DictIs H' kvs' (firsts acc (Tms.all (t.kids.take i))))
        ⟨⟨none, rfl⟩, fun x o _ e => e, kvs, hd1, hD.mono (Tup.of_same s1)⟩ (fun i σ H' _ p => SqL.of (p.2.1 _ _ ldn upd_same)) ?_ ?_
      · rintro i x σ H' ex ⟨⟨vi, rfl⟩, b1, kvs', hd', hD'⟩
        obtain ⟨u, eu, hu⟩ := hws.get' ex
        have mu := List.mem_of_getElem? eu
        have tp : Tup H H' := (Tup.of_same s1).trans (b1.tup hd1)
        have tp0 : Tup H0 H' := (Tup.of_same (same_upd nl)).trans (b1.tup hd1)
        have hle := all_take_le t.kids (i + 1)
        rw [all_take_succ eu, List.length_append] at hle
        have hfl := firsts_len (Tms.all (t.kids.take i)) acc
        refine ⟨_, rfl, _, rfl, x, u, d, kvs', _, rfl, hu.mono tp0, wf_mem (wf_kids hw) u mu, ?_, by omega, hd', hD', firsts_wf hacc (alls_wf (wf_take (wf_kids hw) i)), hcl.kids _, by omega, fun H2 kvs2 b2 hd2 hD2 => ?_⟩
        · have h1 := depth_mem mu
          have h2 := depth_kids hw
          rw [if_neg (fun z => by rw [z] at mu; cases mu)] at h2
          omega
        · refine ⟨⟨_, rfl⟩, b1.trans b2, kvs2, hd2, ?_⟩
          rw [all_take_succ eu, firsts_app]
          exact hD2
      · rintro σ H' ⟨⟨vi, rfl⟩, b1, kvs', hd', hD'⟩
        rw [hlen, List.take_length] at hD'
        have tp : Tup H H' := (Tup.of_same s1).trans (b1.tup hd1)
        have hfl := firsts_len (Tms.all t.kids) acc
        have hwf := firsts_wf hacc (alls_wf (wf_kids hw))
        have e0 : firsts acc t.all = add (firsts acc (Tms.all t.kids)) t := by rw [all_kids, firsts_app, firsts_one]
        have bb : But1 d H H' := (But1.of_same s1).trans b1
        have m : ¬ t ∈ firsts acc (Tms.all t.kids) := fun z => (mem_fst.mp z).elim mt (self_out hw)
        have ez := (hD'.none_iff hwf hw).mpr m
        refine ⟨_, rfl, _, rfl, _, rfl, d, _, rfl, DPut.k (k := Sum.inr t.shown) hd' (by rw [hD'.len]; omega), ?_⟩
        rw [putK_new _ ez]
        refine k _ _ (bb.trans fun x o nx e => by rw [upd_ne nx]; exact e) upd_same ?_
        rw [e0, add_out m]
        have tp2 : Tup H' (upd H' d (.dK (kvs' ++ [(Sum.inr t.shown, v)]))) := Tup.upd fun xs z => by rw [hd'] at z; cases z
        refine ⟨?_, ?_⟩
        · rw [List.map_append, List.map_append, hD'.1]
          rfl
        · rw [List.map_append]
          exact TmsAt.app (.cons (hv.mono (tp.trans tp2)) .nil) (hD'.2.mono tp2)
def spWi : Sp := fun vs H Q _ => ∃ (v : V) (t : Tm), vs = [v] ∧ TmAt H v t ∧ t.Wf ∧ t.depth ≤ 4 ∧ ∀ r H' ws, H r = none → Same H H' → H' r = some (.lst ws) → TmsAt H' ws (firsts [] t.all) → Q (.ref r) H'
theorem scWi : FnScope ["term", "found"] ["term"] (defScope sWi) := ⟨rfl, rfl, rfl, by decide +kernel, rfl, by decide +kernel, by decide +kernel⟩
theorem ok_wi {f fG : Addr} {fd fdG : FuncData} (F : Fun K "within" "within" sWi f fd) (GG : FnOk P w K mg base CX0 8 fG fdG ["term", "found"] (spGa 5)) (kG : PySem.W.keepIn K (.ref fG) = true) (bG : Binds K fdG ["term", "found"] []) (mG : mg "gather_terms" = some (.ref fG)) (B : Blt mg) :
    FnOk P w K mg base CX0 9 f fd ["term"] spWi := by
  refine F.ok scWi (fun vs H Q E h => ?_) (fun cdv A outer s H vs Q E hr h => ?_)
  · obtain ⟨v, t, rfl, _⟩ := h
    rfl
  obtain ⟨v, t, rfl, hv, hw, hdp, k⟩ := h
  refine ⟨_, pss_cons (ps_set (i := 1) scWi.nd rfl (Or.inl rfl) pe_dnewK)
    (pss_cons (ps_expr (pe_call GG hr rfl mG kG bG .nil pass0 (pa_cons (pv 0) (pa_cons (pv 1) pa_nil))))
    (pss_one (ps_ret (pe_callTy (call_listV rfl) rfl B.li PyProof.Rows.boot_list (pa_cons (pe_bm0 PySem.F.plainAttrs_dict PySem.F.slot_dict_values PySem.F.type_dict_values mt_values (pv 1)) pa_nil))))), ?_⟩
  intro d nd
  have s1 : Same H (upd H d (.dK [])) := same_upd nd
  have hal := all_small (n := 4) hw hdp
  have hL : 2 * 4 ^ 4 = 512 := by decide
  refine ⟨_, rfl, _, rfl, v, t, d, [], [], rfl, hv.mono (Tup.of_same s1), hw, by omega, by omega, upd_same, ⟨rfl, .nil⟩, by unfold Tms.Wf; trivial, Clo.nil, by simp only [List.length_nil]; omega, fun H2 kvs2 b2 hd2 hD2 => ?_⟩
  refine ⟨_, rfl, .inr (.inr (.inl ⟨rfl, .inl ⟨kvs2, hd2⟩⟩)), d, kvs2, rfl, rfl, hd2, fun x nx => ?_⟩
  have s3 : Same H2 (upd H2 x (ViewV x d)) := same_upd nx
  refine ⟨x, d, kvs2, rfl, upd_same, s3 _ _ hd2, fun l nl => ?_⟩
  have sH : Same H (upd (upd H2 x (ViewV x d)) l (.lst (kvs2.map (·.2)))) := fun y o e => same_upd nl _ _ (s3 _ _ (b2 y o (ne_of_none e nd) (s1 _ _ e)))
  refine k l _ _ ?_ sH upd_same (hD2.2.mono (Tup.of_same (s3.trans (same_upd nl))))
  have n2 := s3.free nl
  cases e : H l with
  | none => rfl
  | some o => rw [b2 l o (ne_of_none e nd) (s1 _ _ e)] at n2; cases n2
def spDo (n : Nat) : Sp := fun vs H Q _ => ∃ (v : V) (t : Tm), vs = [v] ∧ TmAt H v t ∧ t.Wf ∧ t.depth < n ∧ n ≤ 5 ∧ ∀ H', Same H H' → Q (.int (t.depth : Int)) H'
theorem scDo : FnScope ["term", "depths"] ["term"] (defScope sDo) := ⟨rfl, rfl, rfl, by decide +kernel, rfl, by decide +kernel, by decide +kernel⟩
theorem depth_max : ∀ {ts : List Tm} {M : Int}, M ∈ ts.map (fun t => (t.depth : Int) + 1) → (∀ a ∈ ts.map (fun t => (t.depth : Int) + 1), a ≤ M) → M = (Tms.depth ts : Int) + 1 := by
  intro ts M hM hall
  obtain ⟨u, mu, eu⟩ := List.mem_map.mp hM
  have h1 := depth_mem mu
  have h2 : Tms.depth ts ≤ u.depth := depth_le fun t mt => by
    have := hall _ (List.mem_map_of_mem (f := fun t : Tm => (t.depth : Int) + 1) mt)
    omega
  omega
theorem ok_do {f fT : Addr} {fd fdT : FuncData} (F : Fun K "depth_of" "depth_of" sDo f fd) (bF : Binds K fd ["term"] []) (mF : mg "depth_of" = some (.ref f))
    (GT : FnOk P w K mg base CX0 1 fT fdT ["term"] spTr) (kT : PySem.W.keepIn K (.ref fT) = true) (bT : Binds K fdT ["term"] []) (mT : mg "terms_right_in" = some (.ref fT)) (B : Blt mg) :
    ∀ n, FnOk P w K mg base CX0 (n + 1) f fd ["term"] (spDo n) := by
  intro n
  induction n with
  | zero => exact FnOk.no fun vs H Q E ⟨_, _, _, _, _, h, _⟩ => by omega
  | succ n ih =>
    refine F.ok scDo (fun vs H Q E h => ?_) (fun cdv A outer s H vs Q E hr h => ?_)
    · obtain ⟨v, t, rfl, _⟩ := h
      rfl
    obtain ⟨v, t, rfl, hv, hw, hdp, hn, k⟩ := h
    have hr1 : Room 1 _ := hr.mono (by omega)
    refine ⟨_, pss_cons (ps_setC (NC := ["inner"]) (mp := [none]) (i := 1) rfl scDo.nd rfl rfl rfl (pi_list (pe_call GT hr1 rfl mT kT bT .nil pass0 (pa_cons (pv 0) pa_nil))) (fun _ _ _ _ _ => pg_name (i := 0) (nd1 _) rfl (Or.inl rfl)) (fun _ _ _ _ _ => pts_nil) (fun _ _ _ _ _ => pe_op op_add (pe_call ih hr rfl mF F.kp bF .nil pass0 (pa_cons (pv 0) pa_nil)) pe_int))
      (pss_one (ps_ret (pe_maxD rfl rfl B.mx PyProof.Rows.boot_max (pa_cons (pv 1) pa_nil) (pk_cons pe_int pk_nil)))), ?_⟩
    refine tset_of rfl ?_
    refine ⟨_, rfl, v, t, rfl, hv, fun l ws nl hws => ⟨l, rfl, ⟨ws, SqL.of upd_same⟩, fun D nD => ?_⟩⟩
    have s1 : Same H (upd H l (.lst ws)) := same_upd nl
    have hlen := hws.len
    have hk3 : ws.length ≤ 10 := by
      rw [hlen]
      cases t with
      | nm x => simp [Tm.kids]
      | ap g ts => unfold Tm.Wf at hw; simp only [Tm.kids]; omega
    have hL : (20 : Nat) ≤ sizeLine := by decide +kernel
    refine comp_list (xs := ws) (fun i acc H' => Same (upd H l (.lst ws)) H' ∧ H' D = some (.lst acc) ∧ acc = (t.kids.take i).map fun t => V.int ((t.depth : Int) + 1)) ⟨same_upd nD, upd_same, rfl⟩ (fun i acc H' p => SqL.of (p.1 _ _ upd_same)) ?_ ?_
    · rintro i x acc H' hi ex ⟨sH, hD, rfl⟩
      obtain ⟨u, eu, hu⟩ := hws.get' ex
      have mu := List.mem_of_getElem? eu
      refine ⟨_, rfl, x, u, rfl, hu.mono ((Tup.of_same s1).trans (Tup.of_same sH)), wf_mem (wf_kids hw) u mu, ?_, by omega, fun H6 s6 => ⟨_, _, rfl, rfl, CompN.mk hi ?_ (s6 _ _ hD) ⟨same_wr nD (sH.trans s6), upd_same, (take_map_succ eu).symm⟩⟩⟩
      · have h1 := depth_mem mu
        have h2 := depth_kids hw
        rw [if_neg (fun z => by rw [z] at mu; cases mu)] at h2
        omega
      · rw [List.length_map, List.length_take]
        omega
    · rintro acc H' ⟨sH, hD, rfl⟩
      rw [hlen, List.take_length] at hD
      have sA := s1.trans sH
      have hk := depth_kids hw
      have em : (t.kids.map fun t => V.int ((t.depth : Int) + 1)) = (t.kids.map fun t => (t.depth : Int) + 1).map V.int := by rw [List.map_map]; rfl
      rw [em] at hD
      refine ⟨_, rfl, D, _, 0, rfl, rfl, SqL.of hD, fun z => ?_, fun M hM hall => ?_⟩
      · have : t.kids = [] := by simpa using z
        rw [if_pos this] at hk
        have := k H' sA
        rw [hk] at this
        exact this
      · have : t.kids ≠ [] := fun z => by rw [z] at hM; cases hM
        rw [if_neg this] at hk
        have := k H' sA
        rw [hk] at this
        rw [depth_max hM hall]
        exact this
end
end K06
set_option Elab.async false
set_option linter.all false
set_option maxRecDepth 100000
set_option maxHeartbeats 1000000
namespace K06
open PySem L2 Trm
theorem kids_ap (f : Str) (ts : List Tm) : (Tm.ap f ts).kids = ts := rfl
theorem firsts_mem : ∀ {ts acc : List Tm} {u : Tm}, u ∈ firsts acc ts → u ∈ acc ∨ u ∈ ts
  | [], acc, u, h => .inl h
  | t :: ts, acc, u, h => by
    rw [firsts_cons] at h
    rcases firsts_mem h with h | h
    · unfold add at h
      split at h
      · exact .inl h
      · rcases List.mem_append.mp h with h | h
        · exact .inl h
        · exact .inr (by rw [List.mem_singleton.mp h]; exact List.mem_cons_self)
    · exact .inr (List.mem_cons_of_mem _ h)
theorem firsts_take {ts : List Tm} {i : Nat} {t : Tm} (e : ts[i]? = some t) : firsts [] (ts.take (i + 1)) = add (firsts [] (ts.take i)) t := by
  rw [List.take_add_one, e, firsts_app]
  rfl
theorem lower_take {ts : List Tm} {i : Nat} {t : Tm} (e : ts[i]? = some t) : lower (ts.take (i + 1)) = lower (ts.take i) ++ t.kids := by
  rw [List.take_add_one, e]
  unfold lower
  rw [List.flatMap_append]
  simp
section
variable {P : Program} {w : World} {K : PySem.W.Frag} {mg : Str → Option Value} {base : Heap}
def spAll (n : Nat) : Sp := fun vs H Q _ => ∃ (v : V) (t : Tm), vs = [v] ∧ TmAt H v t ∧ t.Wf ∧ t.depth < n ∧ n ≤ 5 ∧ ∀ r H' ws, H r = none → Same H H' → H' r = some (.lst ws) → TmsAt H' ws t.all → Q (.ref r) H'
theorem scAll : FnScope ["_law_term_here", "_law_found", "_law_one"] ["_law_term_here"] (defScope sAll) := ⟨rfl, rfl, rfl, by decide +kernel, rfl, by decide +kernel, by decide +kernel⟩
theorem ok_all {f : Addr} {fd : FuncData} (F : Fun K "_law_all" "_law_all" sAll f fd) (bF : Binds K fd ["_law_term_here"] []) (mF : mg "_law_all" = some (.ref f)) : ∀ n, FnOk P w K mg base CX0 (n + 1) f fd ["_law_term_here"] (spAll n) := by
  intro n
  induction n with
  | zero => exact FnOk.no fun vs H Q E ⟨_, _, _, _, _, h, _⟩ => by omega
  | succ n ih =>
    refine F.ok scAll (fun vs H Q E h => ?_) (fun cdv A outer s H vs Q E hr h => ?_)
    · obtain ⟨v, t, rfl, _⟩ := h
      rfl
    obtain ⟨v, t, rfl, hv, hw, hdp, hn, k⟩ := h
    refine ⟨_, pss_cons (ps_set (i := 1) scAll.nd rfl (Or.inl rfl) (pe_lst pa_nil))
      (pss_cons (ps_if (pt_cmpR op_eq (pe_ix ix_tup (pv 0) pe_int fun _ _ => rfl) pe_str (nomark _))
        (pss_one (ps_for PassesOwn.never rfl (pi_tup (pe_ix ix_tup (pv 0) pe_int fun _ _ => rfl)) (pg_name (i := 2) scAll.nd rfl (Or.inl rfl)) (pss_one (ps_set (i := 1) scAll.nd rfl (Or.inl rfl) (pe_op op_cat (pv 1) (pe_call ih hr rfl mF F.kp bF .nil pass0 (pa_cons (pv 2) pa_nil))))))) pss_nil)
      (pss_one (ps_ret (pe_op op_cat (pv 1) (pe_lst (pa_cons (pv 0) pa_nil)))))), ?_⟩
    have hal := all_small (n := 4) hw (by omega)
    have hP : 2 * 4 ^ 4 = 512 := by decide
    have hL : (20000 : Nat) ≤ sizeLine := by decide +kernel
    have hkl := kids_len t
    refine ⟨by show 0 ≤ sizeLine; decide, fun l nl => ?_⟩
    have s1 : Same H (upd H l (.lst [])) := same_upd nl
    have fin : ∀ (H1 : Hp) (l1 : Addr) (ws : List V) (vi : Option V), Same H H1 → H1 l1 = some (.lst ws) → TmsAt H1 ws (Tms.all t.kids) →
        (tRet (tOp rCat (tVar 1) (tLst (tCons (tVar 0) tNil)))) { nx := fun _ H' => Q .non H', rt := Q } [some v, some (.ref l1), vi] H1 := by
      intro H1 l1 ws vi sm h1 h2
      refine ⟨_, rfl, _, rfl, by show 1 ≤ sizeLine; decide, fun p np => ?_⟩
      have s2 : Same H1 (upd H1 p (.lst [v])) := same_upd np
      have hl := h2.len
      refine ⟨l1, p, ws, [v], rfl, rfl, s2 _ _ h1, upd_same, by simp only [List.length_cons, List.length_nil]; omega, fun q nq => ?_⟩
      have s3 := sm.trans (s2.trans (same_upd nq (o := .lst (ws ++ [v]))))
      refine k q _ _ ((sm.trans s2).free nq) s3 upd_same ?_
      rw [all_kids]
      exact TmsAt.app (.cons (hv.mono (Tup.of_same s3)) .nil) (h2.mono (Tup.of_same (s2.trans (same_upd nq))))
    cases t with
    | nm x =>
      have hv' := hv
      unfold TmAt at hv'
      obtain ⟨r, rfl, h1⟩ := hv'
      refine ⟨_, rfl, r, _, 0, .str "name", rfl, rfl, SqT.of (s1 _ _ h1), rfl, rfl, _, rfl, ?_⟩
      rw [decide_eq_false (show ¬ V.str "name" = V.str "call" by decide +kernel)]
      exact iteF (fin _ l [] none s1 upd_same (by simp only [Tm.kids, Tms.all]; exact .nil))
    | ap g ts =>
      have hv' := hv
      unfold TmAt at hv'
      obtain ⟨r, q, vs, rfl, h1, h2, h3⟩ := hv'
      have hw' := hw
      unfold Tm.Wf at hw'
      refine ⟨_, rfl, r, _, 0, .str "call", rfl, rfl, SqT.of (s1 _ _ h1), rfl, rfl, _, rfl, ?_⟩
      rw [decide_eq_true rfl]
      refine iteT ⟨_, rfl, r, _, 2, .ref q, rfl, rfl, SqT.of (s1 _ _ h1), rfl, q, rfl, ⟨vs, SqT.of (s1 _ _ h2)⟩, ?_⟩
      have hlen := h3.len
      refine for_tup (xs := vs) (fun i σ H' => Same H H' ∧ ∃ l1 ws vi, σ = [some (.ref r), some (.ref l1), vi] ∧ H' l1 = some (.lst ws) ∧ TmsAt H' ws (Tms.all (ts.take i))) ⟨s1, l, [], none, rfl, upd_same, by simp only [List.take_zero, Tms.all]; exact .nil⟩ (fun i σ H' _ p => SqT.of (p.1 _ _ h2)) ?_ ?_
      · rintro i x σ H' ex ⟨sH, l1, ws, vi, rfl, hl1, hT⟩
        obtain ⟨u, eu, hu⟩ := h3.get' ex
        have mu := List.mem_of_getElem? eu
        have hle := all_take_le ts (i + 1)
        rw [all_take_succ eu, List.length_append] at hle
        rw [kids_ap] at hkl
        refine ⟨_, rfl, _, rfl, x, u, rfl, hu.mono (Tup.of_same sH), wf_mem hw'.2.2.2 u mu, ?_, by omega, fun r2 H2 ws2 nr2 s2 hr2 hT2 => ?_⟩
        · have := depth_mem mu
          unfold Tm.depth at hdp
          omega
        · have hl := hT.len
          have hl2 := hT2.len
          refine ⟨l1, r2, ws, ws2, rfl, rfl, s2 _ _ hl1, hr2, by omega, fun p np => ?_⟩
          refine ⟨sH.trans (s2.trans (same_upd np)), p, ws ++ ws2, _, rfl, upd_same, ?_⟩
          rw [all_take_succ eu]
          exact TmsAt.app (hT2.mono (Tup.of_same (same_upd np))) (hT.mono (Tup.of_same (s2.trans (same_upd np))))
      · rintro σ H' ⟨sH, l1, ws, vi, rfl, hl1, hT⟩
        rw [hlen, List.take_length] at hT
        exact fin H' l1 ws vi sH hl1 hT
def spFi : Sp := fun vs H Q _ => ∃ (l : Addr) (ws : List V) (ts : List Tm), vs = [.ref l] ∧ H l = some (.lst ws) ∧ TmsAt H ws ts ∧ (∀ u ∈ ts, u.depth ≤ 4) ∧ ts.length ≤ 1000 ∧ ∀ r H' ws', H r = none → Same H H' → H' r = some (.lst ws') → TmsAt H' ws' (firsts [] ts) → Q (.ref r) H'
theorem scFi : FnScope ["_law_things", "_law_found", "_law_one"] ["_law_things"] (defScope sFirsts) := ⟨rfl, rfl, rfl, by decide +kernel, rfl, by decide +kernel, by decide +kernel⟩
theorem ok_fi {f : Addr} {fd : FuncData} (F : Fun K "_law_firsts" "_law_firsts" sFirsts f fd) : FnOk P w K mg base CX0 1 f fd ["_law_things"] spFi := by
  refine F.ok scFi (fun vs H Q E h => ?_) (fun cdv A outer s H vs Q E hr h => ?_)
  · obtain ⟨l, ws, ts, rfl, _⟩ := h
    rfl
  obtain ⟨l, ws, ts, rfl, hl, hT, hdp, hsz, k⟩ := h
  have hun := hr.units
  refine ⟨_, pss_cons (ps_set (i := 1) scFi.nd rfl (Or.inl rfl) (pe_lst pa_nil))
    (pss_cons (ps_for PassesOwn.never rfl (pi_list (pv 0)) (pg_name (i := 2) scFi.nd rfl (Or.inl rfl))
      (pss_one (ps_if (pt_cmpR op_eq (pe_bm PySem.F.plainAttrs_list PySem.F.slot_list_count PySem.F.type_list_count (mt_countT (Nat.lt_of_le_of_lt (Nat.add_le_add_left (by decide) _) hun)) (pv 1) (pa_cons (pv 2) pa_nil)) pe_int (nomark _))
        (pss_one (ps_expr (pe_bm PySem.F.plainAttrs_list PySem.F.slot_list_append PySem.F.type_list_append mt_append (pv 1) (pa_cons (pv 2) pa_nil)))) pss_nil)))
    (pss_one (ps_ret (pv 1)))), ?_⟩
  have hL : (20000 : Nat) ≤ sizeLine := by decide +kernel
  refine ⟨by show 0 ≤ sizeLine; decide, fun D nD => ?_⟩
  have s1 : Same H (upd H D (.lst [])) := same_upd nD
  have hlen := hT.len
  refine ⟨_, rfl, l, rfl, ⟨ws, SqL.of (s1 _ _ hl)⟩, ?_⟩
  refine for_list (xs := ws) (fun i σ H' => Same H H' ∧ ∃ ws' vi, σ = [some (.ref l), some (.ref D), vi] ∧ H' D = some (.lst ws') ∧ TmsAt H' ws' (firsts [] (ts.take i))) ⟨s1, [], none, rfl, upd_same, .nil⟩ (fun i σ H' _ p => SqL.of (p.1 _ _ hl)) ?_ ?_
  · rintro i x σ H' ex ⟨sH, ws', vi, rfl, hD, hT'⟩
    obtain ⟨u, eu, hu⟩ := hT.get' ex
    have hu' := hu.mono (Tup.of_same sH)
    have hfl := firsts_len (ts.take i) []
    have hfl2 : (ts.take i).length ≤ ts.length := by rw [List.length_take]; omega
    refine ⟨_, rfl, .inl ⟨rfl, _, SqL.of hD⟩, _, rfl, D, ws', _, x, u, rfl, rfl, hD, hT', hu', fun y hy => ?_, fun c hc => ?_⟩
    · rcases firsts_mem hy with h | h
      · cases h
      · exact hdp y (List.mem_of_mem_take h)
    · refine ⟨rfl, _, rfl, ?_⟩
      by_cases z : c = 0
      · have m := hc.mp z
        subst z
        rw [decide_eq_true rfl]
        have hl' := hT'.len
        refine iteT ⟨_, rfl, .inl ⟨rfl, _, SqL.of hD⟩, _, rfl, D, ws', x, rfl, rfl, hD, by simp only [List.length_nil] at hfl; omega, ?_⟩
        have tp : Tup H' (upd H' D (.lst (ws' ++ [x]))) := Tup.upd fun xs z => by rw [hD] at z; cases z
        refine ⟨same_wr nD sH, _, _, rfl, upd_same, ?_⟩
        rw [firsts_take eu, add_out m]
        exact TmsAt.app (.cons (hu'.mono tp) .nil) (hT'.mono tp)
      · have m : u ∈ firsts [] (ts.take i) := Classical.byContradiction fun h => z (hc.mpr h)
        rw [decide_eq_false (show ¬ V.int c = V.int 0 from fun q => z (V.int.inj q))]
        refine iteF ⟨sH, ws', _, rfl, hD, ?_⟩
        rw [firsts_take eu, add_in m]
        exact hT'
  · rintro σ H' ⟨sH, ws', vi, rfl, hD, hT'⟩
    rw [hlen, List.take_length] at hT'
    exact ⟨_, rfl, k D H' ws' nD sH hD hT'⟩
def spDeep : Sp := fun vs H Q _ => ∃ (v : V) (t : Tm), vs = [v] ∧ TmAt H v t ∧ t.Wf ∧ t.depth ≤ 4 ∧ ∀ H', Same H H' → Q (.int (t.depth : Int)) H'
theorem scDeep : FnScope ["_law_term_here", "_law_deep_here", "_law_level", "_law_lower", "_law_one"] ["_law_term_here"] (defScope sDeep) := ⟨rfl, rfl, rfl, by decide +kernel, rfl, by decide +kernel, by decide +kernel⟩
theorem ok_deep {f : Addr} {fd : FuncData} (F : Fun K "_law_deep" "_law_deep" sDeep f fd) (B : Blt mg) : FnOk P w K mg base CX0 1 f fd ["_law_term_here"] spDeep := by
  refine F.ok scDeep (fun vs H Q E h => ?_) (fun cdv A outer s H vs Q E hr h => ?_)
  · obtain ⟨v, t, rfl, _⟩ := h
    rfl
  obtain ⟨v, t, rfl, hv, hw, hdp, k⟩ := h
  have hu := hu_of hr
  refine ⟨_, pss_cons (ps_set (i := 1) scDeep.nd rfl (Or.inl rfl) pe_int)
    (pss_cons (ps_set (i := 2) scDeep.nd rfl (Or.inl rfl) (pe_lst (pa_cons (pv 0) pa_nil)))
    (pss_cons (ps_while PassesOwn.never (pt_cmpR (op_neNil hu) (pv 2) (pe_lst pa_nil) (nomark _))
      (pss_cons (ps_set (i := 3) scDeep.nd rfl (Or.inl rfl) (pe_lst pa_nil))
      (pss_cons (ps_for PassesOwn.never rfl (pi_list (pv 2)) (pg_name (i := 4) scDeep.nd rfl (Or.inl rfl))
        (pss_one (ps_if (pt_cmpR op_eq (pe_ix ix_tup (pv 4) pe_int fun _ _ => rfl) pe_str (nomark _)) (pss_one (ps_expr (pe_bm PySem.F.plainAttrs_list PySem.F.slot_list_extend PySem.F.type_list_extend mt_extendT (pv 3) (pa_cons (pe_ix ix_tup (pv 4) pe_int fun _ _ => rfl) pa_nil)))) pss_nil)))
      (pss_cons (ps_set (i := 1) scDeep.nd rfl (Or.inl rfl) (pe_op op_add (pv 1) (pe_callTy call_int1 rfl B.it boot_int1 (pa_cons (pe_cmpR (op_neNil hu) (pv 3) (pe_lst pa_nil) (nomark _)) pa_nil))))
      (pss_one (ps_set (i := 2) scDeep.nd rfl (Or.inl rfl) (pv 3)))))))
    (pss_one (ps_ret (pv 1))))), ?_⟩
  have hal := all_small (n := 4) hw hdp
  have hP : 2 * 4 ^ 4 = 512 := by decide
  have hL : (20000 : Nat) ≤ sizeLine := by decide +kernel
  refine ⟨_, rfl, by show 1 ≤ sizeLine; decide, fun l0 nl0 => ?_⟩
  have s0 : Same H (upd H l0 (.lst [v])) := same_upd nl0
  have hT0 : TmsAt (upd H l0 (.lst [v])) [v] [t] := .cons (hv.mono (Tup.of_same s0)) .nil
  refine ⟨fun m σ H' => Same H H' ∧ ∃ (c : Int) (l : Addr) (ws : List V) (ts : List Tm) (v3 v4 : Option V), σ = [some v, some (.int c), some (.ref l), v3, v4] ∧ H' l = some (.lst ws) ∧ TmsAt H' ws ts ∧ Tms.Wf ts ∧ m = (Tms.all ts).length ∧ m ≤ 1000 ∧ c + (Tms.depth ts : Int) = (t.depth : Int),
    ⟨_, s0, 0, l0, [v], [t], none, none, rfl, upd_same, hT0, by unfold Tms.Wf; exact ⟨hw, by unfold Tms.Wf; trivial⟩, rfl, by simp only [Tms.all, List.append_nil]; omega, by simp only [Tms.depth]; omega⟩, ?_⟩
  rintro m σ H' ⟨sH, c, l, ws, ts, v3, v4, rfl, hl, hT, hwf, rfl, hm, hc⟩
  refine ⟨_, rfl, by show 0 ≤ sizeLine; decide, fun e1 ne1 => ?_⟩
  have sE : Same H' (upd H' e1 (.lst [])) := same_upd ne1
  refine ⟨l, e1, ws, rfl, rfl, sE _ _ hl, upd_same, _, rfl, ?_⟩
  have hlen := hT.len
  cases ws with
  | nil =>
    have ts0 : ts = [] := List.eq_nil_of_length_eq_zero (by rw [← hlen]; rfl)
    subst ts0
    refine iteF ⟨_, rfl, ?_⟩
    have := k _ (sH.trans sE)
    rw [← hc] at this
    simpa [Tms.depth] using this
  | cons x0 ws0 =>
    have hne : ts ≠ [] := fun z => by rw [z] at hlen; simp at hlen
    refine iteT ?_
    have hlow := all_lower ts
    have htl : 0 < ts.length := List.length_pos_iff.mpr hne
    refine ⟨fun σ2 H2 => Same H H2 ∧ ∃ (c' : Int) (l' : Addr) (ws' : List V) (v3 v4 : Option V), σ2 = [some v, some (.int c'), some (.ref l'), v3, v4] ∧ H2 l' = some (.lst ws') ∧ TmsAt H2 ws' (lower ts) ∧ c' + (Tms.depth (lower ts) : Int) = (t.depth : Int), ?_, ?_⟩
    · rintro σ2 H2 ⟨q1, c', l', ws', u3, u4, q2, q3, q4, q5⟩
      exact ⟨(Tms.all (lower ts)).length, by omega, q1, c', l', ws', lower ts, u3, u4, q2, q3, q4, wf_lower hwf, rfl, by omega, q5⟩
    refine ⟨by show 0 ≤ sizeLine; decide, fun D nD => ?_⟩
    have sD : Same (upd H' e1 (.lst [])) (upd (upd H' e1 (.lst [])) D (.lst [])) := same_upd nD
    have sHE := sH.trans sE
    refine ⟨_, rfl, l, rfl, ⟨_, SqL.of (sD _ _ (sE _ _ hl))⟩, ?_⟩
    refine for_list (xs := x0 :: ws0) (fun i σ2 H2 => Same (upd H' e1 (.lst [])) H2 ∧ ∃ (ws' : List V) (v4 : Option V), σ2 = [some v, some (.int c), some (.ref l), some (.ref D), v4] ∧ H2 D = some (.lst ws') ∧ TmsAt H2 ws' (lower (ts.take i)))
      ⟨sD, [], v4, rfl, upd_same, by unfold lower; exact .nil⟩ (fun i σ2 H2 _ p => SqL.of (p.1 _ _ (sE _ _ hl))) ?_ ?_
    · rintro i x σ2 H2 ex ⟨s2, ws', u4, rfl, hD, hT2⟩
      obtain ⟨u, eu, hu⟩ := hT.get' ex
      have hu2 := hu.mono ((Tup.of_same sE).trans (Tup.of_same s2))
      have tpD : ∀ o, Tup H2 (upd H2 D o) := fun o => Tup.upd fun xs z => by rw [hD] at z; cases z
      cases u with
      | nm y =>
        unfold TmAt at hu2
        obtain ⟨r, rfl, h1⟩ := hu2
        refine ⟨_, rfl, r, _, 0, .str "name", rfl, rfl, SqT.of h1, rfl, rfl, _, rfl, ?_⟩
        rw [decide_eq_false (show ¬ V.str "name" = V.str "call" by decide +kernel)]
        refine iteF ⟨s2, ws', _, rfl, hD, ?_⟩
        rw [lower_take eu]
        simpa [Tm.kids] using hT2
      | ap g us =>
        unfold TmAt at hu2
        obtain ⟨r, q, vs, rfl, h1, h2, h3⟩ := hu2
        refine ⟨_, rfl, r, _, 0, .str "call", rfl, rfl, SqT.of h1, rfl, rfl, _, rfl, ?_⟩
        rw [decide_eq_true rfl]
        have b1 : (Tms.all (lower ts)).length ≤ 1000 := by omega
        have b2 : (lower (ts.take (i + 1))).length ≤ (Tms.all (lower ts)).length := by
          have e1 := all_lower (lower (ts.take (i + 1)))
          have e2 : lower ts = lower (ts.take (i + 1)) ++ lower (ts.drop (i + 1)) := by
            unfold lower
            rw [← List.flatMap_append, List.take_append_drop]
          rw [e2, all_app, List.length_append]
          omega
        rw [lower_take eu, List.length_append, kids_ap] at b2
        have l1 := hT2.len
        have l2 := h3.len
        refine iteT ⟨_, rfl, .inl ⟨rfl, _, SqL.of hD⟩, _, rfl, r, _, 2, .ref q, rfl, rfl, SqT.of h1, rfl, D, q, ws', vs, rfl, rfl, hD, h2, by omega, ?_⟩
        refine ⟨same_wr nD s2, _, _, rfl, upd_same, ?_⟩
        rw [lower_take eu, kids_ap]
        exact TmsAt.app (h3.mono (tpD _)) (hT2.mono (tpD _))
    · rintro σ2 H2 ⟨s2, ws', u4, rfl, hD, hT2⟩
      have e9 : (x0 :: ws0).length = ts.length := hlen
      rw [e9, List.take_length] at hT2
      refine ⟨_, rfl, _, rfl, by show 0 ≤ sizeLine; decide, fun e2 ne2 => ?_⟩
      have sF : Same H2 (upd H2 e2 (.lst [])) := same_upd ne2
      refine ⟨D, e2, ws', rfl, rfl, sF _ _ hD, upd_same, .inr ⟨_, rfl, _, _, rfl, rfl, _, rfl, ?_⟩⟩
      refine ⟨sHE.trans (s2.trans sF), _, D, ws', _, _, rfl, sF _ _ hD, hT2.mono (Tup.of_same sF), ?_⟩
      have hdl := depth_lower hwf
      have hle2 := hT2.len
      by_cases z : lower ts = []
      · have z2 : ws' = [] := List.eq_nil_of_length_eq_zero (by rw [hle2, z]; rfl)
        rw [if_pos z] at hdl
        rw [z2, z]
        simp only [Tms.depth, List.isEmpty_nil]
        simp
        omega
      · have z2 : ws'.isEmpty = false := by
          cases ws' with
          | nil => exact absurd (List.eq_nil_of_length_eq_zero (by rw [← hle2]; rfl)) z
          | cons a b => rfl
        rw [if_neg z] at hdl
        rw [z2]
        simp
        omega
end
end K06
set_option Elab.async false
set_option linter.all false
set_option maxRecDepth 100000
set_option maxHeartbeats 1000000
namespace K06
open PySem L2 Trm
theorem tnext_of {Z : Ends} {σ : L2.St} {H : Hp} (h : Z.nx σ H) : tNext Z σ H := h
theorem tret_cb {r : List V → Hp → VK → Prop} {te : TE} {Z : Ends} {σ : L2.St} {H : Hp} (h : te σ H fun v H1 => r [v] H1 Z.rt) : tRet (tCB r (tCons te tNil)) Z σ H := h
def Sm (H : Hp) : Nat → V → V → Prop
  | 0, _, _ => False
  | n + 1, v, w => (∃ x, v = .str x ∧ w = .str x) ∨ (∃ i, v = .int i ∧ w = .int i) ∨
      ∃ a b xs ys, v = .ref a ∧ w = .ref b ∧ ((H a = some (.lst xs) ∧ H b = some (.lst ys)) ∨ (H a = some (.tup xs) ∧ H b = some (.tup ys))) ∧ xs.length = ys.length ∧ xs.length ≤ 1000 ∧ ∀ (j : Nat) x y, xs[j]? = some x → ys[j]? = some y → Sm H n x y
theorem Sm.mono {H H' : Hp} (s : Same H H') : ∀ {n : Nat} {v w : V}, Sm H n v w → Sm H' n v w
  | 0, _, _, h => h.elim
  | n + 1, v, w, h => by
    rcases h with h | h | ⟨a, b, xs, ys, e1, e2, h1, h2, h3, h4⟩
    · exact .inl h
    · exact .inr (.inl h)
    · refine .inr (.inr ⟨a, b, xs, ys, e1, e2, ?_, h2, h3, fun j x y q1 q2 => Sm.mono s (h4 j x y q1 q2)⟩)
      rcases h1 with ⟨q1, q2⟩ | ⟨q1, q2⟩
      · exact .inl ⟨s _ _ q1, s _ _ q2⟩
      · exact .inr ⟨s _ _ q1, s _ _ q2⟩
theorem kit_str_tl (K : PySem.W.Frag) : PySem.W.kitAny K (.type "str") [.type "tuple", .type "list"] = some false := by kernel_rfl
theorem kit_int_tl (K : PySem.W.Frag) : PySem.W.kitAny K (.type "int") [.type "tuple", .type "list"] = some false := by kernel_rfl
theorem kit_tup_tl (K : PySem.W.Frag) : PySem.W.kitAny K (.type "tuple") [.type "tuple", .type "list"] = some true := by kernel_rfl
theorem kit_lst_tl (K : PySem.W.Frag) : PySem.W.kitAny K (.type "list") [.type "tuple", .type "list"] = some true := by kernel_rfl
theorem kit_lst_tup (K : PySem.W.Frag) : PySem.W.kitOne K (.type "list") (.type "tuple") = some false := by kernel_rfl
theorem kit_lst_lst (K : PySem.W.Frag) : PySem.W.kitOne K (.type "list") (.type "list") = some true := by kernel_rfl
theorem kit_tup_lst (K : PySem.W.Frag) : PySem.W.kitOne K (.type "tuple") (.type "list") = some false := by kernel_rfl
theorem kit_str_bool (K : PySem.W.Frag) : PySem.W.kitOne K (.type "str") (.type "bool") = some false := by kernel_rfl
theorem kit_str_int (K : PySem.W.Frag) : PySem.W.kitOne K (.type "str") (.type "int") = some false := by kernel_rfl
theorem kit_str_str (K : PySem.W.Frag) : PySem.W.kitOne K (.type "str") (.type "str") = some true := by kernel_rfl
section
variable {P : Program} {w : World} {K : PySem.W.Frag} {mg : Str → Option Value} {base : Heap}
def spSm (n : Nat) : Sp := fun vs H Q _ => ∃ (v w : V), vs = [v, w] ∧ Sm H n v w ∧ ∀ H', Same H H' → Q (.bl true) H'
theorem scSm : FnScope ["_law_found", "_law_due"] ["_law_found", "_law_due"] (defScope sSame) := ⟨rfl, rfl, rfl, by decide +kernel, rfl, by decide +kernel, by decide +kernel⟩
theorem all_true : ∀ {bs : List Bool}, (∀ b ∈ bs, b = true) → bs.all id = true := fun h => List.all_eq_true.mpr fun b m => h b m
theorem ok_sm {f : Addr} {fd : FuncData} (F : Fun K "_law_same" "_law_same" sSame f fd) (bF : Binds K fd ["_law_found", "_law_due"] []) (mF : mg "_law_same" = some (.ref f)) (B : Blt mg) : ∀ n, FnOk P w K mg base CX0 (n + 1) f fd ["_law_found", "_law_due"] (spSm n) := by
  intro n
  induction n with
  | zero => exact FnOk.no fun vs H Q E ⟨_, _, _, h, _⟩ => h
  | succ n ih =>
    refine F.ok scSm (fun vs H Q E h => ?_) (fun cdv A outer s H vs Q E hr h => ?_)
    · obtain ⟨v, w', rfl, _⟩ := h
      rfl
    obtain ⟨v, w', rfl, hs, k⟩ := h
    refine ⟨_, pss_cons (ps_if (pt_val (pe_callB (r := rIsi K) call_isi rfl B.isi boot_isinstance (pa_cons (pv 1) (pa_cons (pe_tup (pa_cons (pe_bltn (v := .ty "tuple") rfl B.tu PyProof.Rows.boot_tuple rfl) (pa_cons (pe_bltn (v := .ty "list") rfl B.li PyProof.Rows.boot_list rfl) pa_nil))) pa_nil))))
        (pss_cons (ps_if (PW.pt (pw_or (pt_cmpR op_ne (pe_callB (r := rIsi K) call_isi rfl B.isi boot_isinstance (pa_cons (pv 0) (pa_cons (pe_bltn (v := .ty "tuple") rfl B.tu PyProof.Rows.boot_tuple rfl) pa_nil))) (pe_callB (r := rIsi K) call_isi rfl B.isi boot_isinstance (pa_cons (pv 1) (pa_cons (pe_bltn (v := .ty "tuple") rfl B.tu PyProof.Rows.boot_tuple rfl) pa_nil))) (nomark _))
            (pw_or1 (pt_cmpR op_ne (pe_callB (r := rIsi K) call_isi rfl B.isi boot_isinstance (pa_cons (pv 0) (pa_cons (pe_bltn (v := .ty "list") rfl B.li PyProof.Rows.boot_list rfl) pa_nil))) (pe_callB (r := rIsi K) call_isi rfl B.isi boot_isinstance (pa_cons (pv 1) (pa_cons (pe_bltn (v := .ty "list") rfl B.li PyProof.Rows.boot_list rfl) pa_nil))) (nomark _))))) (pss_one (ps_ret pe_bl)) pss_nil)
        (pss_cons (ps_if (pt_cmpR op_ne (pe_callB call_len_seq rfl B.le PySem.boot_len (pa_cons (pv 0) pa_nil)) (pe_callB call_len_seq rfl B.le PySem.boot_len (pa_cons (pv 1) pa_nil)) (nomark _)) (pss_one (ps_ret pe_bl)) pss_nil)
        (pss_one (ps_ret (pe_callB (call_allB rfl) rfl B.al PyProof.Rows.boot_all (pa_cons (pe_comp (NC := ["_law_k", "_law_due", "_law_found"]) (mp := [none, some 1, some 0]) rfl (pi_range1 rfl B.ra (pa_cons (pe_callB call_len_seq rfl B.le PySem.boot_len (pa_cons (pv 1) pa_nil)) pa_nil)) (fun _ _ _ _ _ => pg_name (i := 0) (show (["_law_k", "_law_due", "_law_found"] : List Str).Nodup by decide +kernel) rfl (Or.inl rfl)) (fun _ _ _ _ _ => pts_nil)
          (fun _ _ _ _ _ => pe_call ih hr rfl mF F.kp bF .nil pass0 (pa_cons (pe_ix (r := rIx K) ix_seq (pv 2) (pv 0) fun _ _ => rfl) (pa_cons (pe_ix (r := rIx K) ix_seq (pv 1) (pv 0) fun _ _ => rfl) pa_nil)))) pa_nil)))))) pss_nil)
      (pss_cons (ps_if (PW.pt (pw_or (pt_cmpR op_isN (pv 1) pe_non (nomark _)) (pw_or1 (pt_val (pe_callB (r := rIsi K) call_isi rfl B.isi boot_isinstance (pa_cons (pv 1) (pa_cons (pe_bltn (v := .ty "bool") rfl B.bo PyProof.Rows.boot_bool rfl) pa_nil)))))))
        pss_never pss_nil)
      (pss_cons (ps_if (pt_val (pe_callB (r := rIsi K) call_isi rfl B.isi boot_isinstance (pa_cons (pv 1) (pa_cons (pe_bltn (v := .ty "int") rfl B.it PyProof.Rows.boot_int rfl) pa_nil))))
        (pss_one (ps_ret (pe_and (pe_callB (r := rIsi K) call_isi rfl B.isi boot_isinstance (pa_cons (pv 0) (pa_cons (pe_bltn (v := .ty "int") rfl B.it PyProof.Rows.boot_int rfl) pa_nil))) (pe_and (pe_not (pe_callB (r := rIsi K) call_isi rfl B.isi boot_isinstance (pa_cons (pv 0) (pa_cons (pe_bltn (v := .ty "bool") rfl B.bo PyProof.Rows.boot_bool rfl) pa_nil)))) (pe_one (pe_cmpR op_eq (pv 0) (pv 1) (nomark _))))))) pss_nil)
      (pss_one (ps_ret (pe_and (pe_callB (r := rIsi K) call_isi rfl B.isi boot_isinstance (pa_cons (pv 0) (pa_cons (pe_bltn (v := .ty "str") rfl B.st PyProof.Rows.boot_str rfl) pa_nil))) (pe_one (pe_cmpR op_eq (pv 0) (pv 1) (nomark _)))))))), ?_⟩
    rcases hs with ⟨x, rfl, rfl⟩ | ⟨i, rfl, rfl⟩ | ⟨a, b, xs, ys, rfl, rfl, hab, hlen, hsz, hit⟩
    · refine ⟨_, rfl, by show 2 ≤ sizeLine; decide, fun p np => ?_⟩
      have s1 : Same H (upd H p (.tup [.ty "tuple", .ty "list"])) := same_upd np
      refine ⟨.str x, .ref p, _, false, rfl, .of (.str x), .inr ⟨p, _, rfl, upd_same, rfl, kit_str_tl K⟩, false, rfl, iteF ?_⟩
      refine ⟨_, rfl, rfl, _, rfl, iteF ⟨_, rfl, .str x, .ty "bool", _, false, rfl, .of (.str x), .inl ⟨rfl, kit_str_bool K⟩, false, rfl, iteF ?_⟩⟩
      refine ⟨_, rfl, .str x, .ty "int", _, false, rfl, .of (.str x), .inl ⟨rfl, kit_str_int K⟩, false, rfl, iteF ?_⟩
      refine ⟨_, rfl, .str x, .ty "str", _, true, rfl, .of (.str x), .inl ⟨rfl, kit_str_str K⟩, true, rfl, iteT ⟨_, rfl, _, rfl, rfl, ?_⟩⟩
      rw [decide_eq_true rfl]
      exact k _ s1
    · refine ⟨_, rfl, by show 2 ≤ sizeLine; decide, fun p np => ?_⟩
      have s1 : Same H (upd H p (.tup [.ty "tuple", .ty "list"])) := same_upd np
      refine ⟨.int i, .ref p, _, false, rfl, .of (.int i), .inr ⟨p, _, rfl, upd_same, rfl, kit_int_tl K⟩, false, rfl, iteF ?_⟩
      refine ⟨_, rfl, rfl, _, rfl, iteF ⟨_, rfl, .int i, .ty "bool", _, false, rfl, .of (.int i), .inl ⟨rfl, kit_int_bool K⟩, false, rfl, iteF ?_⟩⟩
      refine ⟨_, rfl, .int i, .ty "int", _, true, rfl, .of (.int i), .inl ⟨rfl, kit_int_int K⟩, true, rfl, iteT ?_⟩
      refine ⟨_, rfl, .int i, .ty "int", _, true, rfl, .of (.int i), .inl ⟨rfl, kit_int_int K⟩, true, rfl, iteT ⟨_, rfl, .int i, .ty "bool", _, false, rfl, .of (.int i), .inl ⟨rfl, kit_int_bool K⟩, false, rfl, true, rfl, iteT ⟨_, rfl, _, rfl, rfl, ?_⟩⟩⟩
      rw [decide_eq_true rfl]
      exact k _ s1
    · obtain ⟨T, bt, bl, hTy, kA, kT, kL, hSq⟩ : ∃ (T : String) (bt bl : Bool), (∀ H', Same H H' → TyX K H' (.ref a) (.type T) ∧ TyX K H' (.ref b) (.type T)) ∧ PySem.W.kitAny K (.type T) [.type "tuple", .type "list"] = some true ∧ PySem.W.kitOne K (.type T) (.type "tuple") = some bt ∧ PySem.W.kitOne K (.type T) (.type "list") = some bl ∧
          (∀ H', Same H H' → (SqL K H' a xs ∨ SqT K H' a xs) ∧ (SqL K H' b ys ∨ SqT K H' b ys)) := by
        rcases hab with ⟨ha, hb⟩ | ⟨ha, hb⟩
        · exact ⟨"list", false, true, fun H' s => ⟨.of (.lst (s _ _ ha)), .of (.lst (s _ _ hb))⟩, kit_lst_tl K, kit_lst_tup K, kit_lst_lst K, fun H' s => ⟨.inl (SqL.of (s _ _ ha)), .inl (SqL.of (s _ _ hb))⟩⟩
        · exact ⟨"tuple", true, false, fun H' s => ⟨.of (.tup (s _ _ ha)), .of (.tup (s _ _ hb))⟩, kit_tup_tl K, kit_tuple_tuple K, kit_tup_lst K, fun H' s => ⟨.inr (SqT.of (s _ _ ha)), .inr (SqT.of (s _ _ hb))⟩⟩
      have ix : ∀ {H' : Hp} {p : Addr} {zs : List V} {i : Nat} {z : V} {R : VK}, (SqL K H' p zs ∨ SqT K H' p zs) → zs[i]? = some z → R z H' → rIx K (.ref p) (.int (i : Int)) H' R := fun h e q => by
        rcases h with h | h
        · exact .inl ⟨_, _, _, _, rfl, rfl, h, atI_nat e, q⟩
        · exact .inr (.inl ⟨_, _, _, _, rfl, rfl, h, atI_nat e, q⟩)
      refine ⟨_, rfl, by show 2 ≤ sizeLine; decide, fun p np => ?_⟩
      have s1 : Same H (upd H p (.tup [.ty "tuple", .ty "list"])) := same_upd np
      obtain ⟨ta, tb⟩ := hTy _ s1
      obtain ⟨qa, qb⟩ := hSq _ s1
      have hL : (20000 : Nat) ≤ sizeLine := by decide +kernel
      refine ⟨.ref b, .ref p, _, true, rfl, tb, .inr ⟨p, _, rfl, upd_same, rfl, kA⟩, true, rfl, iteT ?_⟩
      refine ⟨_, rfl, .ref a, .ty "tuple", _, bt, rfl, ta, .inl ⟨rfl, kT⟩, _, rfl, .ref b, .ty "tuple", _, bt, rfl, tb, .inl ⟨rfl, kT⟩, rfl, _, rfl, ?_⟩
      rw [decide_eq_true rfl]
      refine iteF ⟨_, rfl, .ref a, .ty "list", _, bl, rfl, ta, .inl ⟨rfl, kL⟩, _, rfl, .ref b, .ty "list", _, bl, rfl, tb, .inl ⟨rfl, kL⟩, rfl, _, rfl, ?_⟩
      rw [decide_eq_true rfl]
      refine iteF ⟨_, rfl, a, xs, rfl, qa, _, rfl, b, ys, rfl, qb, rfl, _, rfl, ?_⟩
      rw [decide_eq_true (show V.int (xs.length : Int) = V.int (ys.length : Int) by rw [hlen])]
      refine iteF ?_
      refine tnext_of ?_
      dsimp only
      refine tret_cb ?_
      refine tcomp_of (rest := [some (.ref b), some (.ref a)]) rfl ?_
      refine ⟨_, rfl, b, ys, rfl, qb, (ys.length : Int), rfl, by omega, by omega, fun D nD => ?_⟩
      refine comp_range (n := ys.length) (fun i acc H' => Same (upd H p (.tup [.ty "tuple", .ty "list"])) H' ∧ H' D = some (.lst acc) ∧ acc = List.replicate i (V.bl true)) ⟨same_upd nD, upd_same, rfl⟩ ?_ ?_
      · rintro i acc H' hi ⟨sH, hD, rfl⟩
        rw [Int.zero_add]
        have sA := s1.trans sH
        obtain ⟨qa', qb'⟩ := hSq _ sA
        have e1 : xs[i]? = some (xs[i]'(by omega)) := List.getElem?_eq_getElem _
        have e2 : ys[i]? = some (ys[i]'hi) := List.getElem?_eq_getElem _
        refine ⟨_, rfl, _, rfl, ix qa' e1 ⟨_, rfl, _, rfl, ix qb' e2 ⟨_, _, rfl, (hit i _ _ e1 e2).mono sA, fun H6 s6 => CompN.mk hi ?_ (s6 _ _ hD) ⟨same_wr nD (sH.trans s6), upd_same, ?_⟩⟩⟩⟩
        · rw [List.length_replicate]
          omega
        · rw [List.replicate_succ']
      · rintro acc H' ⟨sH, hD, rfl⟩
        refine ⟨D, List.replicate ys.length true, rfl, SqL.of (by rw [List.map_replicate]; exact hD), ?_⟩
        rw [all_true fun b m => (List.mem_replicate.mp m).2]
        exact k _ (s1.trans sH)
theorem sm_tm {H : Hp} : ∀ (n : Nat) {v w : V} {t : Tm}, TmAt H v t → TmAt H w t → t.Wf → t.depth < n → Sm H (2 * n) v w
  | 0, v, w, t, _, _, _, h => absurd h (by omega)
  | n + 1, v, w, .nm x, h1, h2, _, _ => by
    unfold TmAt at h1 h2
    obtain ⟨r, rfl, h1⟩ := h1
    obtain ⟨r', rfl, h2⟩ := h2
    refine .inr (.inr ⟨r, r', _, _, rfl, rfl, .inr ⟨h1, h2⟩, rfl, by simp, ?_⟩)
    intro j p q e1 e2
    match j, e1, e2 with
    | 0, e1, e2 => cases e1; cases e2; exact .inl ⟨_, rfl, rfl⟩
    | 1, e1, e2 => cases e1; cases e2; exact .inl ⟨_, rfl, rfl⟩
    | j + 2, e1, e2 => simp at e1
  | n + 1, v, w, .ap f ts, h1, h2, hw, hd => by
    unfold TmAt at h1 h2
    unfold Tm.Wf at hw
    unfold Tm.depth at hd
    obtain ⟨r, q, vs, rfl, h1, g1, k1⟩ := h1
    obtain ⟨r', q', vs', rfl, h2, g2, k2⟩ := h2
    refine .inr (.inr ⟨r, r', _, _, rfl, rfl, .inr ⟨h1, h2⟩, rfl, by simp, ?_⟩)
    intro j x y e1 e2
    have l1 := k1.len
    have l2 := k2.len
    match j, e1, e2 with
    | 0, e1, e2 => cases e1; cases e2; exact .inl ⟨_, rfl, rfl⟩
    | 1, e1, e2 => cases e1; cases e2; exact .inl ⟨_, rfl, rfl⟩
    | 2, e1, e2 =>
      cases e1
      cases e2
      refine .inr (.inr ⟨q, q', _, _, rfl, rfl, .inr ⟨g1, g2⟩, by omega, by omega, ?_⟩)
      intro i x y e1 e2
      obtain ⟨t, et, ht⟩ := k1.get' e1
      obtain ⟨t', et', ht'⟩ := k2.get' e2
      rw [et] at et'
      cases et'
      have mt := List.mem_of_getElem? et
      have := depth_mem mt
      exact sm_tm n ht ht' (wf_mem hw.2.2.2 t mt) (by omega)
    | j + 3, e1, e2 => simp at e1
theorem sm_list {H : Hp} {a b : Addr} {xs ys : List V} {ts : List Tm} (ha : H a = some (.lst xs)) (hb : H b = some (.lst ys)) (h1 : TmsAt H xs ts) (h2 : TmsAt H ys ts) (hw : Tms.Wf ts) (hd : ∀ t ∈ ts, t.depth ≤ 4) (hl : ts.length ≤ 1000) : Sm H 11 (.ref a) (.ref b) := by
  have l1 := h1.len
  have l2 := h2.len
  refine .inr (.inr ⟨a, b, xs, ys, rfl, rfl, .inl ⟨ha, hb⟩, by omega, by omega, ?_⟩)
  intro j x y e1 e2
  obtain ⟨t, et, ht⟩ := h1.get' e1
  obtain ⟨t', et', ht'⟩ := h2.get' e2
  rw [et] at et'
  cases et'
  have mt := List.mem_of_getElem? et
  have := hd t mt
  exact sm_tm 5 ht ht' (wf_mem hw t mt) (by omega)
end
end K06
set_option Elab.async false
set_option linter.all false
set_option maxRecDepth 100000
set_option maxHeartbeats 1000000
namespace K06
open PySem L2 Trm
def FeedAt (H : Hp) (f c : Addr) : Prop := ∃ (cells : List Int) (b n : Int), H f = some (.lst [.ref c, .int b, .int n]) ∧ H c = some (.lst (cells.map V.int)) ∧ 0 < cells.length ∧ cells.length ≤ 63 ∧ f ≠ c
def Keep (f c : Addr) (H H' : Hp) : Prop := ∀ x, x ≠ f → x ≠ c → H' x = H x
theorem Keep.refl {f c : Addr} {H : Hp} : Keep f c H H := fun _ _ _ => rfl
theorem Keep.trans {f c : Addr} {H H1 H2 : Hp} (a : Keep f c H H1) (b : Keep f c H1 H2) : Keep f c H H2 := fun x h1 h2 => (b x h1 h2).trans (a x h1 h2)
theorem cut_ints (ns : List Int) (lo hi : Option Int) : ∃ ms : List Int, cutV (ns.map V.int) lo hi = ms.map V.int ∧ ms.length ≤ ns.length := by
  refine ⟨(ns.drop (HT.sIx (ns.map V.int).length 0 lo)).take (HT.sIx (ns.map V.int).length (ns.map V.int).length hi - HT.sIx (ns.map V.int).length 0 lo), ?_, ?_⟩
  · unfold cutV
    rw [List.map_take, List.map_drop]
  · rw [List.length_take, List.length_drop]
    omega
theorem at_ints {ns : List Int} {i : Int} (h0 : 0 ≤ i) (h1 : i < ns.length) : ∃ (j : Nat) (z : Int), i = (j : Int) ∧ j < ns.length ∧ atI (ns.map V.int) i = some (.int z) ∧ ixN (ns.map V.int).length i = some j := by
  obtain ⟨j, rfl⟩ : ∃ j : Nat, i = (j : Int) := ⟨i.toNat, by omega⟩
  have hj : j < ns.length := by omega
  refine ⟨j, ns[j], rfl, hj, atI_nat (by simp [hj]), ?_⟩
  unfold ixN
  rw [if_pos h0, List.length_map, if_pos h1, Int.toNat_natCast]
theorem FeedAt.keep {f c : Addr} {H H' : Hp} (x : FeedAt H f c) (e1 : H' f = H f) (e2 : H' c = H c) : FeedAt H' f c := by
  obtain ⟨cells, b, n, h1, h2, r⟩ := x
  exact ⟨cells, b, n, e1.trans h1, e2.trans h2, r⟩
theorem FeedAt.same {f c : Addr} {H H' : Hp} (x : FeedAt H f c) (s : Same H H') : FeedAt H' f c := by
  obtain ⟨cells, b, n, h1, h2, r⟩ := x
  exact ⟨cells, b, n, s _ _ h1, s _ _ h2, r⟩
theorem FeedAt.ne {f c r : Addr} {H : Hp} (x : FeedAt H f c) (h : H r = none) : r ≠ f ∧ r ≠ c := by
  obtain ⟨cells, b, n, h1, h2, _⟩ := x
  exact ⟨(ne_of_none h1 h).symm, (ne_of_none h2 h).symm⟩
def But (f c : Addr) (H H' : Hp) : Prop := ∀ x o, x ≠ f → x ≠ c → H x = some o → H' x = some o
theorem But.of_keep {f c : Addr} {H H' : Hp} (k : Keep f c H H') : But f c H H' := fun x o h1 h2 e => (k x h1 h2).trans e
theorem But.of_same {f c : Addr} {H H' : Hp} (k : Same H H') : But f c H H' := fun x o _ _ e => k x o e
theorem But.trans {f c : Addr} {H H1 H2 : Hp} (a : But f c H H1) (b : But f c H1 H2) : But f c H H2 := fun x o h1 h2 e => b x o h1 h2 (a x o h1 h2 e)
section
variable {P : Program} {w : World} {K : PySem.W.Frag} {mg : Str → Option Value} {base : Heap}
def spFeed (K : PySem.W.Frag) : Sp := fun vs H Q _ => ∃ (a : Addr) (ns : List Int), vs = [.ref a] ∧ SqL K H a (ns.map V.int) ∧ ns.length ≤ 63 ∧ ∀ (f c : Addr) (H' : Hp), H f = none → H c = none → Same H H' → FeedAt H' f c → Q (.ref f) H'
theorem scFd : FnScope ["_law_script", "_law_cells"] ["_law_script"] (defScope sFeed) := ⟨rfl, rfl, rfl, by decide +kernel, rfl, by decide +kernel, by decide +kernel⟩
theorem ok_feed {f : Addr} {fd : FuncData} (F : Fun K "_law_feed" "_law_feed" sFeed f fd) (B : Blt mg) : FnOk P w K mg base CX0 1 f fd ["_law_script"] (spFeed K) := by
  refine F.ok scFd (fun vs H Q E h => ?_) (fun cdv A outer s H vs Q E hr h => ?_)
  · obtain ⟨a, ns, rfl, _⟩ := h
    rfl
  · obtain ⟨a, ns, rfl, hS, hl, k⟩ := h
    refine ⟨_, pss_cons (ps_set (i := 1) scFd.nd rfl (Or.inl rfl) (pe_callTy call_list_of rfl B.li PyProof.Rows.boot_list (pa_cons (pe_slice sl_list (pv 0) (po_some pe_int) (po_some pe_int)) pa_nil)))
      (pss_cons (ps_if (pt_cmpR op_eq (pe_callB call_len_seq rfl B.le PySem.boot_len (pa_cons (pv 1) pa_nil)) pe_int (nomark _))
        (pss_one (ps_set (i := 1) scFd.nd rfl (Or.inl rfl) (pe_lst (pa_cons (pe_op op_fdiv (pe_callB (call_sumL rfl) rfl B.su boot_sum (pa_cons (pe_slice sl_list (pv 0) po_none (po_some pe_int)) pa_nil)) pe_int) pa_nil)))) pss_nil)
      (pss_one (ps_ret (pe_lst (pa_cons (pv 1) (pa_cons (pe_op op_mod (pe_callB (call_sumL rfl) rfl B.su boot_sum (pa_cons (pe_slice sl_list (pv 0) po_none (po_some pe_int)) pa_nil)) pe_int) (pa_cons pe_int pa_nil))))))), ?_⟩
    refine ⟨_, rfl, 1, rfl, 63, rfl, a, _, rfl, hS, fun p hp => ?_⟩
    obtain ⟨ms, em, lm⟩ := cut_ints ns (some 1) (some 63)
    rw [em]
    refine ⟨p, _, rfl, .inl (SqL.of upd_same), fun c0 hc0 => ?_⟩
    have s1 : Same H (upd (upd H p (.lst (ms.map V.int))) c0 (.lst (ms.map V.int))) := (same_upd hp).trans (same_upd hc0)
    have n1 : H c0 = none := (same_upd hp).free hc0
    have last : ∀ (H1 : Hp) (c : Addr) (cells : List Int), Same H H1 → H c = none → H1 c = some (.lst (cells.map V.int)) → 0 < cells.length → cells.length ≤ 63 →
        (tRet (tLst (tCons (tVar 1) (tCons (tOp (rI (fun _ j => 0 < j) fun i j => .int (i % j)) (tCB (fun xs H Q => ∃ (p : Addr) (ns : List Int), xs = [.ref p] ∧ SqL K H p (ns.map V.int) ∧ Q (.int ns.sum) H) (tCons (tSl (rSlL K) (tVar 0) tNoPart (tPart (tC (.int 1)))) tNil)) (tC (.int 2))) (tCons (tC (.int 0)) tNil)))))
          { nx := fun _ H' => Q .non H', rt := Q } [some (.ref a), some (.ref c)] H1 := by
      intro H1 c cells sm nc hc h0 h63
      refine ⟨_, rfl, _, rfl, 1, rfl, a, _, rfl, sm.seq hS, fun p2 hp2 => ?_⟩
      obtain ⟨ls, el, ll⟩ := cut_ints ns none (some 1)
      rw [el]
      refine ⟨p2, ls, rfl, SqL.of upd_same, _, _, rfl, rfl, (by show (0 : Int) < 2; decide), by show 3 ≤ sizeLine; decide, fun f hf => ?_⟩
      have s2 : Same H (upd (upd H1 p2 (.lst (ls.map V.int))) f (.lst [.ref c, .int (ls.sum % 2), .int 0])) := sm.trans ((same_upd hp2).trans (same_upd hf))
      have s3 : Same H (upd H1 p2 (.lst (ls.map V.int))) := sm.trans (same_upd hp2)
      have hc2 : (upd H1 p2 (.lst (ls.map V.int))) c = some (.lst (cells.map V.int)) := same_upd hp2 _ _ hc
      refine k f c _ (s3.free hf) nc s2 ⟨cells, _, _, upd_same, ?_, h0, h63, fun z => ?_⟩
      · rw [upd_ne (ne_of_none hc2 hf)]
        exact hc2
      · rw [z, hc2] at hf
        cases hf
    refine ⟨_, rfl, c0, _, rfl, .inl (SqL.of upd_same), rfl, _, rfl, ?_⟩
    rw [List.length_map]
    by_cases z : ms.length = 0
    · have z' : V.int ((ms.length : Nat) : Int) = V.int 0 := by rw [z]; rfl
      rw [decide_eq_true z']
      refine iteT ?_
      refine ⟨_, rfl, 1, rfl, a, _, rfl, s1.seq hS, fun p2 hp2 => ?_⟩
      obtain ⟨ls, el, ll⟩ := cut_ints ns none (some 1)
      rw [el]
      refine ⟨p2, ls, rfl, SqL.of upd_same, _, _, rfl, rfl, ⟨by decide, by decide⟩, by show 1 ≤ sizeLine; decide, fun c hc => ?_⟩
      have s3 := s1.trans (same_upd (o := .lst (ls.map V.int)) hp2)
      exact last _ c [ls.sum / 2] (s3.trans (same_upd hc)) (s3.free hc) upd_same (by show 0 < 1; decide) (by show 1 ≤ 63; decide)
    · have z' : ¬ V.int ((ms.length : Nat) : Int) = V.int 0 := fun q => z (by have := V.int.inj q; omega)
      rw [decide_eq_false z']
      refine iteF ?_
      exact last _ c0 ms s1 n1 upd_same (by omega) (by omega)

def spDraw : Sp := fun vs H Q _ => ∃ (f c : Addr) (m : Int), vs = [.ref f, .int m] ∧ FeedAt H f c ∧ 0 < m ∧ Big m ∧ ∀ (r : Int) (H' : Hp), 0 ≤ r → r < m → FeedAt H' f c → Keep f c H H' → Q (.int r) H'
theorem scD : FnScope ["_law_feed_here", "_law_many", "_law_at", "_law_k", "_law_cell"] ["_law_feed_here", "_law_many"] (defScope sDraw) := ⟨rfl, rfl, rfl, by decide +kernel, rfl, by decide +kernel, by decide +kernel⟩
theorem ok_draw {f : Addr} {fd : FuncData} (F : Fun K "_law_draw" "_law_draw" sDraw f fd) (B : Blt mg) : FnOk P w K mg base CX0 1 f fd ["_law_feed_here", "_law_many"] spDraw := by
  refine F.ok scD (fun vs H Q E h => ?_) (fun cdv A outer s H vs Q E hr h => ?_)
  · obtain ⟨f, c, m, rfl, _⟩ := h
    rfl
  · obtain ⟨f, c, m, rfl, ⟨cells, b, n, hf, hc, l0, l63, nfc⟩, m0, mB, k⟩ := h
    refine ⟨_, pss_cons (ps_set (i := 2) scD.nd rfl (Or.inl rfl) (pe_ix ix_list (pv 0) pe_int fun _ _ => rfl))
      (pss_cons (ps_asg (pe_op op_add (pv 2) pe_int) (pg_sub (pv 0) pe_int set_list))
      (pss_cons (ps_set (i := 3) scD.nd rfl (Or.inl rfl) (pe_op op_mod (pv 2) (pe_callB call_len_seq rfl B.le PySem.boot_len (pa_cons (pe_ix ix_list (pv 0) pe_int fun _ _ => rfl) pa_nil))))
      (pss_cons (ps_set (i := 4) scD.nd rfl (Or.inl rfl) (pe_ix ix_list (pe_ix ix_list (pv 0) pe_int fun _ _ => rfl) (pv 3) fun _ _ => rfl))
      (pss_cons (ps_if (pt_cmpR op_eq (pe_ix ix_list (pv 0) pe_int fun _ _ => rfl) pe_int (nomark _))
        (pss_cons (ps_asg (pe_op op_fdivB (pv 4) (pv 1)) (pg_sub (pe_ix ix_list (pv 0) pe_int fun _ _ => rfl) (pv 3) set_list)) (pss_one (ps_ret (pe_op op_mod (pv 4) (pv 1))))) pss_nil)
      (pss_one (ps_ret (pe_op op_mod (pe_op op_mod (pe_op op_mul (pe_op op_mod (pe_op op_mul (pe_op op_add (pv 4) (pe_op op_mul pe_int (pv 2))) pe_int) pe_int) pe_int) pe_int) (pv 1)))))))), ?_⟩
    refine ⟨_, rfl, f, _, 2, .int n, rfl, rfl, SqL.of hf, rfl, ?_⟩
    refine ⟨_, rfl, _, _, rfl, rfl, _, rfl, f, _, 2, 2, rfl, rfl, hf, rfl, ?_⟩
    have hf1 : (upd H f (.lst ([V.ref c, .int b, .int n].set 2 (.int (n + 1))))) f = some (.lst [.ref c, .int b, .int (n + 1)]) := upd_same
    have hc1 : (upd H f (.lst ([V.ref c, .int b, .int n].set 2 (.int (n + 1))))) c = some (.lst (cells.map V.int)) := by rw [upd_ne (Ne.symm nfc)]; exact hc
    have k1 : Keep f c H (upd H f (.lst ([V.ref c, .int b, .int n].set 2 (.int (n + 1))))) := fun x h1 _ => upd_ne h1
    generalize upd H f (.lst ([V.ref c, .int b, .int n].set 2 (.int (n + 1)))) = H1 at hf1 hc1 k1 ⊢
    refine ⟨_, rfl, _, rfl, f, _, 0, .ref c, rfl, rfl, SqL.of hf1, rfl, c, _, rfl, .inl (SqL.of hc1), n, _, rfl, rfl, (by rw [List.length_map]; omega), ?_⟩
    rw [List.length_map]
    have q0 : (0 : Int) ≤ n % (cells.length : Int) := Int.emod_nonneg _ (by omega)
    have q1 : n % (cells.length : Int) < (cells.length : Int) := Int.emod_lt_of_pos _ (by omega)
    obtain ⟨j, z, ek, hj, ha, hix⟩ := at_ints q0 q1
    refine ⟨_, rfl, f, _, 0, .ref c, rfl, rfl, SqL.of hf1, rfl, _, rfl, c, _, n % (cells.length : Int), .int z, rfl, rfl, SqL.of hc1, ha, ?_⟩
    refine ⟨_, rfl, f, _, 1, .int b, rfl, rfl, SqL.of hf1, rfl, rfl, _, rfl, ?_⟩
    refine ite2 (fun _ => ?_) (fun _ => ?_)
    · refine ⟨_, rfl, _, rfl, z, m, rfl, rfl, ⟨m0, mB⟩, _, rfl, f, _, 0, .ref c, rfl, rfl, SqL.of hf1, rfl, _, rfl, c, _, n % (cells.length : Int), j, rfl, rfl, hc1, hix, ?_⟩
      refine ⟨_, rfl, _, rfl, z, m, rfl, rfl, m0, ?_⟩
      refine k _ _ (Int.emod_nonneg _ (by omega)) (Int.emod_lt_of_pos _ m0) ⟨cells.set j (z / m), b, n + 1, ?_, ?_, ?_, ?_, nfc⟩ (k1.trans fun x _ h2 => upd_ne h2)
      · rw [upd_ne nfc]
        exact hf1
      · rw [List.map_set]
        exact upd_same
      · rw [List.length_set]
        exact l0
      · rw [List.length_set]
        exact l63
    · refine ⟨_, rfl, _, rfl, 31, n, rfl, rfl, .inl ⟨by decide, by decide⟩, z, 31 * n, rfl, rfl, _, 48271, rfl, rfl, .inr ⟨by decide, by decide⟩, _, 2147483647, rfl, rfl, (by show (0 : Int) < 2147483647; decide), _, 69621, rfl, rfl, .inr ⟨by decide, by decide⟩, _, 2147483629, rfl, rfl, (by show (0 : Int) < 2147483629; decide), _, rfl, _, m, rfl, rfl, m0, ?_⟩
      exact k _ _ (Int.emod_nonneg _ (by omega)) (Int.emod_lt_of_pos _ m0) ⟨cells, b, n + 1, hf1, hc1, l0, l63, nfc⟩ k1
end
end K06
set_option Elab.async false
set_option linter.all false
set_option maxRecDepth 100000
set_option maxHeartbeats 1000000
namespace K06
open PySem L2 Trm
def Wd (n : Nat) (x : Str) : Prop := x.length = n ∧ ∀ c ∈ cl x, Ltr c
abbrev abc : Str := Str.ofString "abcdefghijklmnopqrstuvwxyz"
theorem abc_at {i : Int} (h0 : 0 ≤ i) (h1 : i < 26) : ∃ c, atI abc.cps.toList i = some c ∧ Ltr c := by
  obtain ⟨j, rfl⟩ : ∃ j : Nat, i = (j : Int) := ⟨i.toNat, by omega⟩
  have e : abc.cps.toList = (List.range 26).map (97 + ·) := by decide +kernel
  refine ⟨97 + j, atI_nat ?_, ?_⟩
  · rw [e, List.getElem?_map, List.getElem?_range (by omega)]
    rfl
  · unfold Ltr
    omega
theorem abc_len : abc.length ≤ sizeLine := by decide +kernel
theorem wd_one {c : Nat} (h : Ltr c) : Wd 1 ⟨#[c]⟩ := ⟨rfl, fun d m => by
  have m : d ∈ [c] := m
  rw [List.mem_singleton.mp m]
  exact h⟩
theorem wd_app {m n : Nat} {x y : Str} (a : Wd m x) (b : Wd n y) : Wd (m + n) (x ++ y) := by
  refine ⟨by rw [len_app, a.1, b.1], fun c h => ?_⟩
  rw [cl_app] at h
  rcases List.mem_append.mp h with h | h
  · exact a.2 c h
  · exact b.2 c h
theorem slice_mem {x : Str} {l u : Option Int} {c : Nat} (h : c ∈ cl (Txt.slice x l u)) : c ∈ cl x := by
  unfold Txt.slice at h
  split at h
  · exact h
  · have h' : c ∈ List.filterMap (fun i => x.cps[i]?) (Builtin.Str.strSliceIndices l u 1 x.length) := by simpa [cl] using h
    obtain ⟨i, _, e⟩ := List.mem_filterMap.mp h'
    unfold cl
    exact Array.mem_toList_iff.mpr (Array.mem_of_getElem? e)
theorem wd_to {n : Nat} {x : Str} {j : Int} (a : Wd n x) (h0 : 0 ≤ j) (h : j ≤ n) : Wd j.toNat (Txt.slice x none (some j)) := by
  refine ⟨?_, fun c m => a.2 c (slice_mem m)⟩
  have := (PyProof.Rows.fact_slice_ns x j).1 h0 (by have := a.1; omega)
  omega
theorem wd_from {n : Nat} {x : Str} {j : Int} (a : Wd n x) (h0 : 0 ≤ j) (h : j ≤ n) : Wd (n - j.toNat) (Txt.slice x (some j) none) := by
  refine ⟨?_, fun c m => a.2 c (slice_mem m)⟩
  have := (PyProof.Rows.fact_slice_sn x j).1 h0 (by have := a.1; omega)
  have := a.1
  omega
theorem wd_nm {n : Nat} {x : Str} (a : Wd n x) (h0 : 0 < n) (h8 : n ≤ 8) : Nm x := ⟨by rw [a.1]; exact h0, by rw [a.1]; exact h8, a.2⟩
theorem wd_join : ∀ {ys : List Str}, (∀ y ∈ ys, Wd 1 y) → Wd ys.length (Txt.join (Str.ofString "") ys)
  | ys, h => by
    have e : Txt.join (Str.ofString "") ys = Str.join (Str.ofString "") ys := StrLaws.glued_eq_join _ _
    rw [e]
    clear e
    induction ys with
    | nil => exact ⟨rfl, fun c m => by cases m⟩
    | cons y ys ih =>
      have h1 := h y List.mem_cons_self
      have ih := ih fun z m => h z (List.mem_cons_of_mem _ m)
      cases ys with
      | nil => exact h1
      | cons z ys =>
        have e2 : Str.join (Str.ofString "") (y :: z :: ys) = y ++ Str.ofString "" ++ Str.join (Str.ofString "") (z :: ys) := rfl
        rw [e2, List.length_cons (a := y), Nat.add_comm]
        exact wd_app (m := 1) (wd_app (n := 0) h1 ⟨by decide +kernel, fun c m => by
          have e3 : cl (Str.ofString "") = [] := by decide +kernel
          rw [e3] at m
          cases m⟩) ih
theorem sum_ones : ∀ {ys : List Str}, (∀ y ∈ ys, Wd 1 y) → (ys.map (·.length)).sum = ys.length
  | [], _ => rfl
  | y :: ys, h => by
    simp only [List.map_cons, List.sum_cons, List.length_cons]
    rw [sum_ones fun z m => h z (List.mem_cons_of_mem _ m), (h y List.mem_cons_self).1]
    omega
def Names (H : Hp) (nl : Addr) : Prop := ∃ ns : List Str, H nl = some (.lst (ns.map V.str)) ∧ ns.length = 6 ∧ ∀ x ∈ ns, Nm x
theorem Names.at {H : Hp} {nl : Addr} (h : Names H nl) {i : Int} (h0 : 0 ≤ i) (h6 : i < 6) : ∃ xs x, H nl = some (.lst xs) ∧ atI xs i = some (.str x) ∧ Nm x := by
  obtain ⟨ns, e, l, w⟩ := h
  obtain ⟨j, rfl⟩ : ∃ j : Nat, i = (j : Int) := ⟨i.toNat, by omega⟩
  have hj : j < ns.length := by omega
  exact ⟨_, ns[j], e, atI_nat (by simp [hj]), w _ (List.getElem_mem hj)⟩
theorem words6 : ∀ x ∈ ([Str.ofString "all", Str.ofString "not", Str.ofString "like", Str.ofString "most", Str.ofString "any", Str.ofString "equal"] : List Str), Nm x := by
  have h : ∀ x ∈ ([Str.ofString "all", Str.ofString "not", Str.ofString "like", Str.ofString "most", Str.ofString "any", Str.ofString "equal"] : List Str), 0 < x.length ∧ x.length ≤ 8 ∧ ∀ c ∈ cl x, 97 ≤ c ∧ c ≤ 122 := by decide +kernel
  exact fun x m => ⟨(h x m).1, (h x m).2.1, (h x m).2.2⟩
theorem tcons1 {te : TE} {σ : L2.St} {H : Hp} {Q : List V → Hp → Prop} (h : te σ H fun v H1 => Q [v] H1) : tCons te tNil σ H Q := h
theorem tret_of {te : TE} {Z : Ends} {σ : L2.St} {H : Hp} (h : te σ H Z.rt) : tRet te Z σ H := h
theorem But.wr {f c D : Addr} {H H' : Hp} {o : HO} (b : But f c H H') (h : H D = none) : But f c H (upd H' D o) := fun x u n1 n2 e => by
  rw [upd_ne (ne_of_none e h)]
  exact b x u n1 n2 e
theorem FeedAt.wr {f c D : Addr} {H : Hp} {o : HO} (x : FeedAt H f c) (h : D ≠ f ∧ D ≠ c) : FeedAt (upd H D o) f c := x.keep (upd_ne h.1.symm) (upd_ne h.2.symm)
theorem But.free {f c D : Addr} {H H' : Hp} (b : But f c H H') (x : FeedAt H' f c) (h : H' D = none) : H D = none := by
  obtain ⟨n1, n2⟩ := x.ne h
  cases e : H D with
  | none => rfl
  | some o =>
    rw [b D o n1 n2 e] at h
    cases h
theorem big_of {m : Int} (h0 : 0 ≤ m) (h : m ≤ 1000000) : Big m := by
  unfold Big
  have : (1000000 : Nat) < 2 ^ 8000 := by decide +kernel
  exact Nat.lt_of_le_of_lt (by omega) this
section
variable {P : Program} {w : World} {K : PySem.W.Frag} {mg : Str → Option Value} {base : Heap}
def spNames : Sp := fun vs H Q _ => ∃ (f c : Addr), vs = [.ref f] ∧ FeedAt H f c ∧ ∀ (r : Addr) (H' : Hp), FeedAt H' f c → But f c H H' → H r = none → Names H' r → Q (.ref r) H'
def nNm : List Str := ["_law_feed_here", "_law_letters", "_law_base", "_law_way", "_law_at", "_law_first", "_law_size", "_law_found", "_law_k", "_law_sign"]
theorem scNm : FnScope nNm ["_law_feed_here"] (defScope sNames) := ⟨rfl, rfl, rfl, by decide +kernel, rfl, by decide +kernel, by decide +kernel⟩
theorem ok_names {f fD : Addr} {fd fdD : FuncData} (F : Fun K "_law_names" "_law_names" sNames f fd) (B : Blt mg) (FD : Fun K "_law_draw" "_law_draw" sDraw fD fdD) (bD : Binds K fdD ["_law_feed_here", "_law_many"] []) (mD : mg "_law_draw" = some (.ref fD)) :
    FnOk P w K mg base CX0 2 f fd ["_law_feed_here"] spNames := by
  have GD : FnOk P w K mg base CX0 1 fD fdD ["_law_feed_here", "_law_many"] spDraw := ok_draw FD B
  refine F.ok scNm (fun vs H Q E h => ?_) (fun cdv A outer s H vs Q E hr h => ?_)
  · obtain ⟨f, c, rfl, _⟩ := h
    rfl
  obtain ⟨f, c, rfl, hF, k⟩ := h
  refine ⟨_, pss_cons (ps_set (i := 1) scNm.nd rfl (Or.inr rfl) pe_str)
    (pss_cons (ps_set (i := 2) scNm.nd rfl (Or.inr rfl) (pe_bm PySem.F.plainAttrs_str PySem.F.slot_str_join PySem.F.type_str_join mt_join pe_str (pa_cons
        (pe_comp (NC := ["_law_k", "_law_feed_here", "_law_letters"]) (mp := [none, some 0, some 1]) rfl (pi_range1 rfl B.ra (pa_cons pe_int pa_nil)) (fun _ _ _ _ _ => pg_name (i := 0) (show (["_law_k", "_law_feed_here", "_law_letters"] : List Str).Nodup by decide +kernel) rfl (Or.inl rfl)) (fun _ _ _ _ _ => pts_nil)
          (fun _ _ _ _ _ => pe_ix ix_str (pv 2) (pe_call GD hr rfl mD FD.kp bD .nil pass0 (pa_cons (pv 1) (pa_cons pe_int pa_nil))) fun _ _ => rfl)) pa_nil)))
    (pss_cons (ps_set (i := 3) scNm.nd rfl (Or.inl rfl) (pe_call GD hr rfl mD FD.kp bD .nil pass0 (pa_cons (pv 0) (pa_cons pe_int pa_nil))))
    (pss_cons (ps_if (pt_cmpR op_eq (pv 3) pe_int (nomark _)) (pss_one (ps_ret
        (pe_comp (NC := ["_law_k", "_law_base"]) (mp := [none, some 2]) rfl (pi_range1 rfl B.ra (pa_cons pe_int pa_nil)) (fun _ _ _ _ _ => pg_name (i := 0) (show (["_law_k", "_law_base"] : List Str).Nodup by decide +kernel) rfl (Or.inl rfl)) (fun _ _ _ _ _ => pts_nil)
          (fun _ _ _ _ _ => pe_slice sl_str (pv 1) po_none (po_some (pe_op op_add (pv 0) pe_int)))))) pss_nil)
    (pss_cons (ps_if (pt_cmpR op_eq (pv 3) pe_int (nomark _)) (pss_one (ps_ret (pe_lst (pa_cons pe_str (pa_cons pe_str (pa_cons pe_str (pa_cons pe_str (pa_cons pe_str (pa_cons pe_str pa_nil))))))))) pss_nil)
    (pss_cons (ps_set (i := 4) scNm.nd rfl (Or.inl rfl) (pe_call GD hr rfl mD FD.kp bD .nil pass0 (pa_cons (pv 0) (pa_cons pe_int pa_nil))))
    (pss_cons (ps_set (i := 5) scNm.nd rfl (Or.inl rfl) (pe_call GD hr rfl mD FD.kp bD .nil pass0 (pa_cons (pv 0) (pa_cons pe_int pa_nil))))
    (pss_cons (ps_set (i := 6) scNm.nd rfl (Or.inl rfl) (pe_ix ix_list (pe_lst (pa_cons pe_int (pa_cons (pe_op op_add (pv 4) pe_int) pa_nil))) (pe_call GD hr rfl mD FD.kp bD .nil pass0 (pa_cons (pv 0) (pa_cons pe_int pa_nil))) fun _ _ => rfl))
    (pss_cons (ps_set (i := 7) scNm.nd rfl (Or.inl rfl) (pe_lst pa_nil))
    (pss_cons (ps_for PassesOwn.never rfl (pi_range1 rfl B.ra (pa_cons pe_int pa_nil)) (pg_name (i := 8) scNm.nd rfl (Or.inl rfl))
      (pss_cons (ps_set (i := 9) scNm.nd rfl (Or.inl rfl) (pe_ix ix_str (pv 1) (pe_op op_mod (pe_op op_add (pv 5) (pv 8)) pe_int) fun _ _ => rfl))
      (pss_one (ps_expr (pe_bm PySem.F.plainAttrs_list PySem.F.slot_list_append PySem.F.type_list_append mt_append (pv 7) (pa_cons (pe_slice sl_str (pe_op op_add_str (pe_op op_add_str (pe_slice sl_str (pv 2) po_none (po_some (pv 4))) (pv 9)) (pe_slice sl_str (pv 2) (po_some (pv 4)) po_none)) po_none (po_some (pv 6))) pa_nil))))))
    (pss_one (ps_ret (pv 7)))))))))))), ?_⟩
  have hL : (20000 : Nat) ≤ sizeLine := by decide +kernel
  refine ⟨rfl, ?_⟩
  refine tcons1 ?_
  refine tcomp_of rfl ?_
  refine ⟨7, rfl, by decide, by decide, fun D nD => ?_⟩
  have nfD := hF.ne nD
  refine comp_range (n := 7) (fun i acc H' => FeedAt H' f c ∧ But f c H H' ∧ H' D = some (.lst acc) ∧ ∃ ys : List Str, acc = ys.map V.str ∧ ys.length = i ∧ ∀ y ∈ ys, Wd 1 y)
    ⟨hF.wr nfD, (But.of_same (Same.refl H)).wr nD, upd_same, [], rfl, rfl, fun y m => by cases m⟩ ?_ ?_
  · rintro i acc H' hi ⟨hF', bt, hD, ys, rfl, hy, hw⟩
    refine ⟨_, rfl, _, rfl, f, c, 26, rfl, hF', by decide, big_of (by decide) (by decide), fun r H2 h0 h1 hF2 kp => ?_⟩
    obtain ⟨d, ed, ld⟩ := abc_at h0 h1
    have hD2 : H2 D = some (.lst (ys.map V.str)) := (kp D nfD.1 nfD.2).trans hD
    refine ⟨_, r, d, rfl, rfl, abc_len, ed, CompN.mk hi (by rw [List.length_map]; omega) hD2 ⟨hF2.wr nfD, (bt.trans (But.of_keep kp)).wr nD, upd_same, ys ++ [⟨#[d]⟩], by simp, by simp [hy], fun y m => ?_⟩⟩
    rcases List.mem_append.mp m with m | m
    · exact hw y m
    · rw [List.mem_singleton.mp m]
      exact wd_one ld
  rintro acc H1 ⟨hF1, bt1, hD, ys, rfl, hy, hw⟩
  have hb := wd_join hw
  rw [hy] at hb
  have e0 : (Str.ofString "").length = 0 := by decide +kernel
  refine ⟨_, D, ys, rfl, rfl, SqL.of hD, by rw [sum_ones hw, hy, e0]; decide, ?_⟩
  generalize Txt.join (Str.ofString "") ys = bs at hb
  refine ⟨_, rfl, f, c, 5, rfl, hF1, by decide, big_of (by decide) (by decide), fun way H2 w0 w5 hF2 kp2 => ?_⟩
  have bt2 := bt1.trans (But.of_keep kp2)
  have hbs : bs.length ≤ sizeLine := by rw [hb.1]; omega
  refine ⟨_, rfl, rfl, _, rfl, ?_⟩
  refine ite2 (fun _ => ?_) (fun _ => ?_)
  · refine tret_of ?_
    refine tcomp_of rfl ?_
    refine ⟨6, rfl, by decide, by decide, fun D2 nD2 => ?_⟩
    have nf2 := hF2.ne nD2
    have n0 := bt2.free hF2 nD2
    refine comp_range (n := 6) (fun i acc H' => FeedAt H' f c ∧ But f c H H' ∧ H' D2 = some (.lst acc) ∧ ∃ ys : List Str, acc = ys.map V.str ∧ ys.length = i ∧ ∀ y ∈ ys, Nm y)
      ⟨hF2.wr nf2, bt2.wr n0, upd_same, [], rfl, rfl, fun y m => by cases m⟩ ?_ ?_
    · rintro i acc H' hi ⟨hF', bt, hD, ys, rfl, hy, hw⟩
      refine ⟨_, rfl, _, rfl, _, _, rfl, rfl, _, rfl, bs, rfl, hbs, CompN.mk hi (by rw [List.length_map]; omega) hD ⟨hF'.wr nf2, bt.wr n0, upd_same, ys ++ [Txt.slice bs none (some (0 + (i : Int) + 1))], by rw [List.map_append]; rfl, by simp [hy], fun y m => ?_⟩⟩
      rcases List.mem_append.mp m with m | m
      · exact hw y m
      · rw [List.mem_singleton.mp m]
        exact wd_nm (wd_to hb (by omega) (by omega)) (by omega) (by omega)
    · rintro acc H3 ⟨hF3, bt3, hD3, ys, rfl, hy, hw⟩
      exact k D2 H3 hF3 bt3 n0 ⟨ys, hD3, hy, hw⟩
  refine ⟨_, rfl, rfl, _, rfl, ?_⟩
  refine ite2 (fun _ => ?_) (fun _ => ?_)
  · refine ⟨by show 6 ≤ sizeLine; decide, fun p np => ?_⟩
    exact k p _ (hF2.wr (hF2.ne np)) (bt2.wr (bt2.free hF2 np)) (bt2.free hF2 np) ⟨_, upd_same, rfl, words6⟩
  refine ⟨_, rfl, f, c, 8, rfl, hF2, by decide, big_of (by decide) (by decide), fun at_ H3 a0 a8 hF3 kp3 => ?_⟩
  refine ⟨_, rfl, f, c, 26, rfl, hF3, by decide, big_of (by decide) (by decide), fun fi H4 f0 f26 hF4 kp4 => ?_⟩
  have bt4 := bt2.trans ((But.of_keep kp3).trans (But.of_keep kp4))
  refine ⟨_, rfl, _, _, rfl, rfl, by show 2 ≤ sizeLine; decide, fun p np => ?_⟩
  have nfp := hF4.ne np
  have n0p := bt4.free hF4 np
  refine ⟨_, rfl, f, c, 2, rfl, hF4.wr nfp, by decide, big_of (by decide) (by decide), fun wh H5 h0 h2 hF5 kp5 => ?_⟩
  have hp5 : H5 p = some (.lst [.int 8, .int (at_ + 1)]) := (kp5 p nfp.1 nfp.2).trans upd_same
  have bt5 := (bt4.wr n0p (o := .lst [.int 8, .int (at_ + 1)])).trans (But.of_keep kp5)
  obtain ⟨sz, e5, s0, s8⟩ : ∃ sz : Int, atI [V.int 8, .int (at_ + 1)] wh = some (.int sz) ∧ 0 < sz ∧ sz ≤ 8 := by
    by_cases z : wh = 0
    · subst z
      exact ⟨8, rfl, by decide, by decide⟩
    · have z : wh = 1 := by omega
      subst z
      exact ⟨at_ + 1, rfl, by omega, by omega⟩
  refine ⟨p, _, wh, _, rfl, rfl, SqL.of hp5, e5, ?_⟩
  refine ⟨by show 0 ≤ sizeLine; decide, fun L nL => ?_⟩
  have nfL := hF5.ne nL
  have n0L := bt5.free hF5 nL
  refine ⟨6, rfl, by decide, by decide, ?_⟩
  refine for_range (n := 6) (fun i σ H' => FeedAt H' f c ∧ But f c H H' ∧ ∃ kk sg, ∃ ys : List Str, σ = [some (.ref f), some (.str abc), some (.str bs), some (.int way), some (.int at_), some (.int fi), some (.int sz), some (.ref L), kk, sg] ∧ H' L = some (.lst (ys.map V.str)) ∧ ys.length = i ∧ ∀ y ∈ ys, Nm y)
    ⟨hF5.wr nfL, bt5.wr n0L, none, none, [], rfl, upd_same, rfl, fun y m => by cases m⟩ ?_ ?_
  · rintro i σ H' hi ⟨hF', bt, kk, sg, ys, rfl, hL', hy, hw⟩
    have q0 : (0 : Int) ≤ (fi + (0 + (i : Int))) % 26 := Int.emod_nonneg _ (by omega)
    have q1 : (fi + (0 + (i : Int))) % 26 < 26 := Int.emod_lt_of_pos _ (by omega)
    obtain ⟨d, ed, ld⟩ := abc_at q0 q1
    have w1 := wd_to (j := at_) hb a0 (by omega)
    have w2 := wd_from (j := at_) hb a0 (by omega)
    have w3 := wd_app w1 (wd_one ld)
    have w4 := wd_app w3 w2
    have hsz : at_.toNat + 1 + (7 - at_.toNat) = 8 := by omega
    rw [hsz] at w4
    refine ⟨_, rfl, _, rfl, _, rfl, _, _, rfl, rfl, _, 26, rfl, rfl, (by show (0 : Int) < 26; decide), _, _, d, rfl, rfl, abc_len, ed, ?_⟩
    refine ⟨_, rfl, .inl ⟨rfl, _, SqL.of hL'⟩, _, rfl, _, rfl, _, rfl, bs, rfl, hbs, _, rfl, _, _, rfl, rfl, by rw [w1.1, (wd_one ld).1]; omega, _, rfl, _, rfl, _, rfl, bs, rfl, hbs, _, _, rfl, rfl, by rw [w3.1, w2.1]; omega, _, rfl, _, rfl, _, rfl, by rw [w4.1]; omega, L, _, _, rfl, rfl, hL', by rw [List.length_map]; omega, ?_⟩
    refine ⟨hF'.wr nfL, bt.wr n0L, _, _, ys ++ [Txt.slice (Txt.slice bs none (some at_) ++ (⟨#[d]⟩ : Str) ++ Txt.slice bs (some at_) none) none (some sz)], rfl, ?_, by simp [hy], fun y m => ?_⟩
    · rw [upd_same, List.map_append]
      rfl
    · rcases List.mem_append.mp m with m | m
      · exact hw y m
      · rw [List.mem_singleton.mp m]
        exact wd_nm (wd_to w4 (by omega) (by omega)) (by omega) (by omega)
  · rintro σ H' ⟨hF', bt, kk, sg, ys, rfl, hL', hy, hw⟩
    exact ⟨_, rfl, k L H' hF' bt n0L ⟨ys, hL', hy, hw⟩⟩
end
end K06
set_option Elab.async false
set_option linter.all false
set_option maxRecDepth 100000
set_option maxHeartbeats 1000000
namespace K06
open PySem L2 Trm
theorem But.tup {f c : Addr} {H H' : Hp} (b : But f c H H') (x : FeedAt H f c) : Tup H H' := fun a xs e => by
  obtain ⟨cells, u, n, h1, h2, _⟩ := x
  refine b a _ (fun z => ?_) (fun z => ?_) e
  · rw [z, h1] at e
    cases e
  · rw [z, h2] at e
    cases e
theorem Names.but {f c nl : Addr} {H H' : Hp} (h : Names H nl) (n1 : nl ≠ f) (n2 : nl ≠ c) (b : But f c H H') : Names H' nl := by
  obtain ⟨ns, e, r⟩ := h
  exact ⟨ns, b _ _ n1 n2 e, r⟩
theorem wfs_of : ∀ {ts : List Tm}, (∀ t ∈ ts, t.Wf) → Tms.Wf ts
  | [], _ => by unfold Tms.Wf; trivial
  | t :: ts, h => by
    unfold Tms.Wf
    exact ⟨h t List.mem_cons_self, wfs_of fun u m => h u (List.mem_cons_of_mem _ m)⟩
theorem depths_of {n : Nat} : ∀ {ts : List Tm}, (∀ t ∈ ts, t.depth ≤ n) → Tms.depth ts ≤ n
  | [], _ => by unfold Tms.depth; omega
  | t :: ts, h => by
    unfold Tms.depth
    have h1 := h t List.mem_cons_self
    have h2 := depths_of fun u m => h u (List.mem_cons_of_mem t m)
    omega
theorem tcons_cb {r : List V → Hp → VK → Prop} {te : TE} {σ : L2.St} {H : Hp} {Q : List V → Hp → Prop} (h : te σ H fun v H1 => r [v] H1 fun u H2 => Q [u] H2) : tCons (tCB r (tCons te tNil)) tNil σ H Q := h
section
variable {P : Program} {w : World} {K : PySem.W.Frag} {mg : Str → Option Value} {base : Heap}
def spTerm (n : Nat) : Sp := fun vs H Q _ => ∃ (f c nl : Addr) (d : Nat), vs = [.ref f, .ref nl, .int d] ∧ FeedAt H f c ∧ Names H nl ∧ nl ≠ f ∧ nl ≠ c ∧ d < n ∧
  ∀ v t H', FeedAt H' f c → But f c H H' → TmAt H' v t → t.Wf → t.depth ≤ d → Q v H'
theorem scTe : FnScope ["_law_feed_here", "_law_names_here", "_law_deep_here", "_law_many", "_law_f"] ["_law_feed_here", "_law_names_here", "_law_deep_here"] (defScope sTerm) := ⟨rfl, rfl, rfl, by decide +kernel, rfl, by decide +kernel, by decide +kernel⟩
theorem ok_term {f fD : Addr} {fd fdD : FuncData} (F : Fun K "_law_term" "_law_term" sTerm f fd) (bF : Binds K fd ["_law_feed_here", "_law_names_here", "_law_deep_here"] []) (mF : mg "_law_term" = some (.ref f)) (B : Blt mg) (FD : Fun K "_law_draw" "_law_draw" sDraw fD fdD) (bD : Binds K fdD ["_law_feed_here", "_law_many"] []) (mD : mg "_law_draw" = some (.ref fD)) :
    ∀ n, FnOk P w K mg base CX0 (n + 1) f fd ["_law_feed_here", "_law_names_here", "_law_deep_here"] (spTerm n) := by
  have GD : FnOk P w K mg base CX0 1 fD fdD ["_law_feed_here", "_law_many"] spDraw := ok_draw FD B
  intro n
  induction n with
  | zero => exact FnOk.no fun vs H Q E ⟨_, _, _, _, _, _, _, _, _, h, _⟩ => by omega
  | succ n ih =>
    refine F.ok scTe (fun vs H Q E h => ?_) (fun cdv A outer s H vs Q E hr h => ?_)
    · obtain ⟨f, c, nl, d, rfl, _⟩ := h
      rfl
    obtain ⟨f, c, nl, d, rfl, hF, hN, nf, nc, hd, k⟩ := h
    have hr1 : Room 1 _ := hr.mono (by omega)
    refine ⟨_, pss_cons (ps_if (PW.pt (pw_or (pt_cmpR op_eq (pv 2) pe_int (nomark _)) (pw_or1 (pt_cmpR op_lt (pe_call GD hr1 rfl mD FD.kp bD .nil pass0 (pa_cons (pv 0) (pa_cons pe_int pa_nil))) pe_int (nomark _)))))
        (pss_one (ps_ret (pe_tup (pa_cons pe_str (pa_cons (pe_ix ix_list (pv 1) (pe_call GD hr1 rfl mD FD.kp bD .nil pass0 (pa_cons (pv 0) (pa_cons pe_int pa_nil))) fun _ _ => rfl) pa_nil))))) pss_nil)
      (pss_cons (ps_set (i := 3) scTe.nd rfl (Or.inl rfl) (pe_ix ix_list (pe_lst (pa_cons pe_int (pa_cons pe_int (pa_cons pe_int (pa_cons pe_int pa_nil))))) (pe_call GD hr1 rfl mD FD.kp bD .nil pass0 (pa_cons (pv 0) (pa_cons pe_int pa_nil))) fun _ _ => rfl))
      (pss_cons (ps_set (i := 4) scTe.nd rfl (Or.inl rfl) (pe_ix ix_list (pv 1) (pe_op op_add pe_int (pe_call GD hr1 rfl mD FD.kp bD .nil pass0 (pa_cons (pv 0) (pa_cons pe_int pa_nil)))) fun _ _ => rfl))
      (pss_one (ps_ret (pe_tup (pa_cons pe_str (pa_cons (pv 4) (pa_cons (pe_callTy call_tuple_of rfl B.tu PyProof.Rows.boot_tuple (pa_cons
        (pe_comp (NC := ["_law_k", "_law_deep_here", "_law_feed_here", "_law_names_here"]) (mp := [none, some 2, some 0, some 1]) rfl (pi_range1 rfl B.ra (pa_cons (pv 3) pa_nil)) (fun _ _ _ _ _ => pg_name (i := 0) (show (["_law_k", "_law_deep_here", "_law_feed_here", "_law_names_here"] : List Str).Nodup by decide +kernel) rfl (Or.inl rfl)) (fun _ _ _ _ _ => pts_nil)
          (fun _ _ _ _ _ => pe_call ih hr rfl mF F.kp bF .nil pass0 (pa_cons (pv 2) (pa_cons (pv 3) (pa_cons (pe_op op_sub (pv 1) pe_int) pa_nil))))) pa_nil)) pa_nil)))))))), ?_⟩
    have hL : (20000 : Nat) ≤ sizeLine := by decide +kernel
    have name : ∀ H1, FeedAt H1 f c → But f c H H1 → (tRet (tTup (tCons (tC (.str "name")) (tCons (tOp (rIxL K) (tVar 1) (tCall spDraw [] E0 (tCons (tVar 0) (tCons (tC (.int 3)) tNil)))) tNil)))) { nx := fun _ H' => Q .non H', rt := Q } [some (.ref f), some (.ref nl), some (.int d), none, none] H1 := by
      intro H1 hF1 b1
      refine ⟨_, rfl, _, rfl, f, c, 3, rfl, hF1, by decide, big_of (by decide) (by decide), fun r H2 h0 h3 hF2 kp2 => ?_⟩
      have b2 := b1.trans (But.of_keep kp2)
      obtain ⟨xs, x, e1, e2, wx⟩ := (hN.but nf nc b2).at h0 (by omega)
      refine ⟨nl, xs, r, _, rfl, rfl, SqL.of e1, e2, by show 2 ≤ sizeLine; decide, fun p np => ?_⟩
      exact k (.ref p) (.nm x) _ (hF2.wr (hF2.ne np)) (b2.wr (b2.free hF2 np)) (by unfold TmAt; exact ⟨p, rfl, upd_same⟩) (by unfold Tm.Wf; exact wx) (by unfold Tm.depth; omega)
    refine ⟨_, rfl, rfl, _, rfl, ?_⟩
    refine ite2 (fun _ => name H hF (But.of_same (Same.refl H))) (fun hd0 => ?_)
    have d0 : d ≠ 0 := fun z => hd0 (by rw [z]; decide)
    refine ⟨_, rfl, f, c, 5, rfl, hF, by decide, big_of (by decide) (by decide), fun r1 H1 _ _ hF1 kp1 => ?_⟩
    have b1 : But f c H H1 := But.of_keep kp1
    refine ⟨_, _, rfl, rfl, _, rfl, ?_⟩
    refine ite2 (fun _ => name H1 hF1 b1) (fun _ => ?_)
    refine ⟨by show 4 ≤ sizeLine; decide, fun p np => ?_⟩
    have nfp := hF1.ne np
    have n0p := b1.free hF1 np
    refine ⟨_, rfl, f, c, 4, rfl, hF1.wr nfp, by decide, big_of (by decide) (by decide), fun r2 H2 h0 h4 hF2 kp2 => ?_⟩
    have hp2 : H2 p = some (.lst [.int 1, .int 1, .int 2, .int 3]) := (kp2 p nfp.1 nfp.2).trans upd_same
    have b2 := (b1.wr n0p (o := .lst [.int 1, .int 1, .int 2, .int 3])).trans (But.of_keep kp2)
    obtain ⟨m, em, m0, m3⟩ : ∃ m : Nat, atI [V.int 1, .int 1, .int 2, .int 3] r2 = some (.int (m : Int)) ∧ 0 < m ∧ m ≤ 3 := by
      have : r2 = 0 ∨ r2 = 1 ∨ r2 = 2 ∨ r2 = 3 := by omega
      rcases this with rfl | rfl | rfl | rfl
      · exact ⟨1, rfl, by decide, by decide⟩
      · exact ⟨1, rfl, by decide, by decide⟩
      · exact ⟨2, rfl, by decide, by decide⟩
      · exact ⟨3, rfl, by decide, by decide⟩
    refine ⟨p, _, r2, _, rfl, rfl, SqL.of hp2, em, ?_⟩
    refine ⟨_, rfl, _, rfl, f, c, 3, rfl, hF2, by decide, big_of (by decide) (by decide), fun r3 H3 g0 g3 hF3 kp3 => ?_⟩
    have b3 := b2.trans (But.of_keep kp3)
    obtain ⟨xs, g, e1, e2, wg⟩ := (hN.but nf nc b3).at (i := 2 + r3) (by omega) (by omega)
    refine ⟨_, _, rfl, rfl, nl, xs, _, _, rfl, rfl, SqL.of e1, e2, ?_⟩
    refine ⟨_, rfl, ?_⟩
    refine tcons_cb ?_
    refine tcomp_of rfl ?_
    refine ⟨_, rfl, m, rfl, by omega, by omega, fun D nD => ?_⟩
    have nfD := hF3.ne nD
    have n0D := b3.free hF3 nD
    refine comp_range (n := m) (fun i acc H' => FeedAt H' f c ∧ But f c H H' ∧ H' D = some (.lst acc) ∧ ∃ ts : List Tm, TmsAt H' acc ts ∧ ts.length = i ∧ ∀ t ∈ ts, t.Wf ∧ t.depth ≤ d - 1)
      ⟨hF3.wr nfD, b3.wr n0D, upd_same, [], .nil, rfl, fun y m => by cases m⟩ ?_ ?_
    · rintro i acc H' hi ⟨hF', bt, hD, ts, hT, hl, hw⟩
      refine ⟨_, rfl, _, rfl, _, rfl, _, _, rfl, rfl, f, c, nl, d - 1, ?_, hF', hN.but nf nc bt, nf, nc, by omega, fun v t H6 hF6 b6 hv wt dt => ?_⟩
      · show [V.ref f, .ref nl, .int ((d : Int) - 1)] = _
        rw [show ((d : Int) - 1) = ((d - 1 : Nat) : Int) by omega]
      · have hD6 : H6 D = some (.lst acc) := b6 D _ nfD.1 nfD.2 hD
        have tp : Tup H6 (upd H6 D (.lst (acc ++ [v]))) := Tup.upd fun xs z => by rw [hD6] at z; cases z
        have hl2 := hT.len
        refine CompN.mk hi (by omega) hD6 ⟨hF6.wr nfD, (bt.trans b6).wr n0D, upd_same, ts ++ [t], TmsAt.app (.cons (hv.mono tp) .nil) (hT.mono ((b6.tup hF').trans tp)), by simp [hl], fun u mu => ?_⟩
        rcases List.mem_append.mp mu with mu | mu
        · exact hw u mu
        · rw [List.mem_singleton.mp mu]
          exact ⟨wt, dt⟩
    · rintro acc H4 ⟨hF4, b4, hD, ts, hT, hl, hw⟩
      refine ⟨D, acc, rfl, .inl ⟨SqL.of hD, fun l nl' => ?_⟩⟩
      refine ⟨by show 3 ≤ sizeLine; decide, fun q nq => ?_⟩
      have s1 : Same H4 (upd H4 l (.tup acc)) := same_upd nl'
      have s2 : Same (upd H4 l (.tup acc)) (upd (upd H4 l (.tup acc)) q (.tup [.str "call", .str g, .ref l])) := same_upd nq
      have hF5 := hF4.same (s1.trans s2)
      refine k (.ref q) (.ap g ts) _ hF5 (b4.trans (But.of_same (s1.trans s2))) ?_ ?_ ?_
      · unfold TmAt
        exact ⟨q, l, acc, rfl, upd_same, s2 _ _ upd_same, hT.mono (Tup.of_same (s1.trans s2))⟩
      · unfold Tm.Wf
        exact ⟨wg, by omega, by omega, wfs_of fun t m => (hw t m).1⟩
      · unfold Tm.depth
        have := depths_of fun t m => (hw t m).2
        omega
end
end K06
set_option Elab.async false
set_option linter.all false
set_option maxRecDepth 100000
set_option maxHeartbeats 1000000
namespace K06
open PySem L2 Trm
theorem Names.same {nl : Addr} {H H' : Hp} (h : Names H nl) (s : Same H H') : Names H' nl := by
  obtain ⟨ns, e, r⟩ := h
  exact ⟨ns, s _ _ e, r⟩
section
variable {P : Program} {w : World} {K : PySem.W.Frag} {mg : Str → Option Value} {base : Heap}
theorem within_facts {t : Tm} (hw : t.Wf) (hd : t.depth ≤ 4) : Tms.Wf (firsts [] t.all) ∧ (∀ u ∈ firsts [] t.all, u.depth ≤ 4) ∧ (firsts [] t.all).length ≤ 1000 ∧ (∀ u ∈ t.all, u.depth ≤ 4) ∧ t.all.length ≤ 1000 := by
  have h1 := all_wf1 4 hd hw
  have h2 := all_small (n := 4) hw hd
  have hP : 2 * 4 ^ 4 = 512 := by decide
  have h3 := firsts_len t.all []
  simp only [List.length_nil] at h3
  refine ⟨firsts_wf (by unfold Tms.Wf; trivial) fun u m => (h1 u m).1, fun u m => ?_, by omega, fun u m => (h1 u m).2, by omega⟩
  rcases firsts_mem m with m | m
  · cases m
  · exact (h1 u m).2
def spLaw (K : PySem.W.Frag) : Sp := fun vs H Q _ => ∃ (a : Addr) (ns : List Int), vs = [.ref a] ∧ SqL K H a (ns.map V.int) ∧ ns.length ≤ 63 ∧ ∀ H', Q (.bl true) H'
theorem scL : FnScope ["_law_script", "_law_feed_here", "_law_names_here", "_law_turn", "_law_term_here", "_law_due", "_law_found"] ["_law_script"] (defScope sLaw) := ⟨rfl, rfl, rfl, by decide +kernel, rfl, by decide +kernel, by decide +kernel⟩
theorem ok_law {f fFe fNa fTe fFi fAl fWi fSa fDo fDe : Addr} {fd dFe dNa dTe dFi dAl dWi dSa dDo dDe : FuncData} (F : Fun K "law" "law" sLaw f fd) (B : Blt mg)
    (gFe : FnOk P w K mg base CX0 1 fFe dFe ["_law_script"] (spFeed K)) (kFe : PySem.W.keepIn K (.ref fFe) = true) (bFe : Binds K dFe ["_law_script"] []) (mFe : mg "_law_feed" = some (.ref fFe))
    (gNa : FnOk P w K mg base CX0 2 fNa dNa ["_law_feed_here"] spNames) (kNa : PySem.W.keepIn K (.ref fNa) = true) (bNa : Binds K dNa ["_law_feed_here"] []) (mNa : mg "_law_names" = some (.ref fNa))
    (gTe : FnOk P w K mg base CX0 6 fTe dTe ["_law_feed_here", "_law_names_here", "_law_deep_here"] (spTerm 5)) (kTe : PySem.W.keepIn K (.ref fTe) = true) (bTe : Binds K dTe ["_law_feed_here", "_law_names_here", "_law_deep_here"] []) (mTe : mg "_law_term" = some (.ref fTe))
    (gFi : FnOk P w K mg base CX0 1 fFi dFi ["_law_things"] spFi) (kFi : PySem.W.keepIn K (.ref fFi) = true) (bFi : Binds K dFi ["_law_things"] []) (mFi : mg "_law_firsts" = some (.ref fFi))
    (gAl : FnOk P w K mg base CX0 6 fAl dAl ["_law_term_here"] (spAll 5)) (kAl : PySem.W.keepIn K (.ref fAl) = true) (bAl : Binds K dAl ["_law_term_here"] []) (mAl : mg "_law_all" = some (.ref fAl))
    (gWi : FnOk P w K mg base CX0 9 fWi dWi ["term"] spWi) (kWi : PySem.W.keepIn K (.ref fWi) = true) (bWi : Binds K dWi ["term"] []) (mWi : mg "within" = some (.ref fWi))
    (gSa : FnOk P w K mg base CX0 12 fSa dSa ["_law_found", "_law_due"] (spSm 11)) (kSa : PySem.W.keepIn K (.ref fSa) = true) (bSa : Binds K dSa ["_law_found", "_law_due"] []) (mSa : mg "_law_same" = some (.ref fSa))
    (gDo : FnOk P w K mg base CX0 6 fDo dDo ["term"] (spDo 5)) (kDo : PySem.W.keepIn K (.ref fDo) = true) (bDo : Binds K dDo ["term"] []) (mDo : mg "depth_of" = some (.ref fDo))
    (gDe : FnOk P w K mg base CX0 1 fDe dDe ["_law_term_here"] spDeep) (kDe : PySem.W.keepIn K (.ref fDe) = true) (bDe : Binds K dDe ["_law_term_here"] []) (mDe : mg "_law_deep" = some (.ref fDe)) :
    FnOk P w K mg base CX0 13 f fd ["_law_script"] (spLaw K) := by
  refine F.ok scL (fun vs H Q E h => ?_) (fun cdv A outer s H vs Q E hr h => ?_)
  · obtain ⟨a, ns, rfl, _⟩ := h
    rfl
  obtain ⟨a, ns, rfl, hS, hn, k⟩ := h
  have hr1 : Room 1 _ := hr.mono (by omega)
  have hr2 : Room 2 _ := hr.mono (by omega)
  have hr6 : Room 6 _ := hr.mono (by omega)
  have hr9 : Room 9 _ := hr.mono (by omega)
  refine ⟨_, pss_cons (ps_set (i := 1) scL.nd rfl (Or.inl rfl) (pe_call gFe hr1 rfl mFe kFe bFe .nil pass0 (pa_cons (pv 0) pa_nil)))
    (pss_cons (ps_set (i := 2) scL.nd rfl (Or.inl rfl) (pe_call gNa hr2 rfl mNa kNa bNa .nil pass0 (pa_cons (pv 1) pa_nil)))
    (pss_cons (ps_for PassesOwn.never rfl (pi_range1 rfl B.ra (pa_cons pe_int pa_nil)) (pg_name (i := 3) scL.nd rfl (Or.inl rfl))
      (pss_cons (ps_set (i := 4) scL.nd rfl (Or.inl rfl) (pe_call gTe hr6 rfl mTe kTe bTe .nil pass0 (pa_cons (pv 1) (pa_cons (pv 2) (pa_cons pe_int pa_nil)))))
      (pss_cons (ps_set (i := 5) scL.nd rfl (Or.inl rfl) (pe_call gFi hr1 rfl mFi kFi bFi .nil pass0 (pa_cons (pe_call gAl hr6 rfl mAl kAl bAl .nil pass0 (pa_cons (pv 4) pa_nil)) pa_nil)))
      (pss_cons (ps_set (i := 6) scL.nd rfl (Or.inl rfl) (pe_call gWi hr9 rfl mWi kWi bWi .nil pass0 (pa_cons (pv 4) pa_nil)))
      (pss_cons (ps_if (PW.pt (pw_or (pt_not (pt_val (pe_call gSa hr rfl mSa kSa bSa .nil pass0 (pa_cons (pv 6) (pa_cons (pv 5) pa_nil))))) (pw_or1 (pt_not (pt_val (pe_call gSa hr rfl mSa kSa bSa .nil pass0 (pa_cons (pe_call gDo hr6 rfl mDo kDo bDo .nil pass0 (pa_cons (pv 4) pa_nil)) (pa_cons (pe_call gDe hr1 rfl mDe kDe bDe .nil pass0 (pa_cons (pv 4) pa_nil)) pa_nil))))))))
        (pss_one (ps_ret pe_bl)) pss_nil)
      (pss_cons (ps_expr (pe_bm0 PySem.F.plainAttrs_list PySem.F.slot_list_clear PySem.F.type_list_clear mt_clear (pv 6)))
      (pss_one (ps_if (pt_not (pt_val (pe_call gSa hr rfl mSa kSa bSa .nil pass0 (pa_cons (pe_call gWi hr9 rfl mWi kWi bWi .nil pass0 (pa_cons (pv 4) pa_nil)) (pa_cons (pv 5) pa_nil)))))
        (pss_one (ps_ret pe_bl)) pss_nil))))))))
    (pss_one (ps_ret pe_bl)))), ?_⟩
  refine ⟨_, rfl, a, ns, rfl, hS, hn, fun fe c H1 n1 n2 s1 hF => ?_⟩
  refine ⟨_, rfl, fe, c, rfl, hF, fun nl H2 hF2 b2 n3 hN => ?_⟩
  have nf := hF.ne n3
  refine ⟨2, rfl, by decide, by decide, ?_⟩
  refine for_range (n := 2) (fun i σ H' => FeedAt H' fe c ∧ Names H' nl ∧ ∃ x3 x4 x5 x6, σ = [some (.ref a), some (.ref fe), some (.ref nl), x3, x4, x5, x6])
    ⟨hF2, hN, none, none, none, none, rfl⟩ ?_ ?_
  · rintro i σ H3 hi ⟨hF3, hN3, x3, x4, x5, x6, rfl⟩
    refine ⟨_, rfl, _, rfl, fe, c, nl, 4, rfl, hF3, hN3, nf.1, nf.2, by decide, fun v t H4 hF4 b4 hv hw hd => ?_⟩
    obtain ⟨fw, fdp, fl, ad, al⟩ := within_facts hw hd
    refine ⟨_, rfl, v, t, rfl, hv, hw, by omega, by decide, fun q H5 ws n5 s5 hq hT => ?_⟩
    refine ⟨q, ws, t.all, rfl, hq, hT, ad, al, fun du H6 ws6 n6 s6 hdu hT6 => ?_⟩
    have s46 := s5.trans s6
    have hv6 := hv.mono (Tup.of_same s46)
    refine ⟨_, rfl, v, t, rfl, hv6, hw, hd, fun fo H7 ws7 n7 s7 hfo hT7 => ?_⟩
    have hdu7 := s7 _ _ hdu
    have hT67 := hT6.mono (Tup.of_same s7)
    have ne : fo ≠ du := fun z => by rw [z, hdu] at n7; cases n7
    refine ⟨_, rfl, _, rfl, .ref fo, .ref du, rfl, sm_list hfo hdu7 hT7 hT67 fw fdp fl, fun H8 s8 => ?_⟩
    refine ⟨true, rfl, ?_⟩
    refine iteF ?_
    have s68 := s7.trans s8
    have hv8 := hv6.mono (Tup.of_same s68)
    refine ⟨_, rfl, v, t, rfl, hv8, hw, by omega, by decide, fun H9 s9 => ?_⟩
    have hv9 := hv8.mono (Tup.of_same s9)
    refine ⟨_, rfl, v, t, rfl, hv9, hw, hd, fun H10 s10 => ?_⟩
    refine ⟨.int _, .int _, rfl, .inr (.inl ⟨_, rfl, rfl⟩), fun H11 s11 => ?_⟩
    refine ⟨true, rfl, ?_⟩
    refine iteF ?_
    have s7b := s8.trans (s9.trans (s10.trans s11))
    have s6b := s7.trans s7b
    have hF6 := hF4.same s46
    have hN6 := (hN3.but nf.1 nf.2 b4).same s46
    have nfo := hF6.ne n7
    have hF11 := hF6.same s6b
    have hN11 := hN6.same s6b
    have hfo11 := s7b _ _ hfo
    have hdu11 := s7b _ _ hdu7
    have hT11 := hT67.mono (Tup.of_same s7b)
    have hv11 := hv6.mono (Tup.of_same s6b)
    refine ⟨_, rfl, .inl ⟨rfl, _, SqL.of hfo11⟩, fo, ws7, rfl, rfl, hfo11, ?_⟩
    have tp : Tup H11 (upd H11 fo (.lst [])) := Tup.upd fun xs z => by rw [hfo11] at z; cases z
    have nn : nl ≠ fo := fun z => by
      obtain ⟨ns, e, _⟩ := hN6
      rw [z, n7] at e
      cases e
    have hF12 : FeedAt (upd H11 fo (.lst [])) fe c := hF11.wr nfo
    have hN12 : Names (upd H11 fo (.lst [])) nl := by
      obtain ⟨ns, e, r⟩ := hN11
      exact ⟨ns, (upd_ne nn).trans e, r⟩
    have hdu12 : (upd H11 fo (.lst [])) du = some (.lst ws6) := (upd_ne ne.symm).trans hdu11
    generalize upd H11 fo (.lst []) = H12 at tp hF12 hN12 hdu12 ⊢
    refine ⟨_, rfl, v, t, rfl, hv11.mono tp, hw, hd, fun r H13 ws13 n13 s13 hr13 hT13 => ?_⟩
    refine ⟨_, rfl, .ref r, .ref du, rfl, sm_list hr13 (s13 _ _ hdu12) hT13 (hT11.mono (tp.trans (Tup.of_same s13))) fw fdp fl, fun H14 s14 => ?_⟩
    refine ⟨true, rfl, ?_⟩
    refine iteF ?_
    exact ⟨hF12.same (s13.trans s14), hN12.same (s13.trans s14), _, _, _, _, rfl⟩
  · rintro σ H3 ⟨hF3, hN3, x3, x4, x5, x6, rfl⟩
    exact k H3
end
end K06
set_option Elab.async false
set_option linter.all false
set_option maxRecDepth 100000
set_option maxHeartbeats 4000000
namespace K06
open PySem L2
theorem all_mk {l : PySem.W.OpenLaw} {w : World} {K : PySem.W.Frag} {h : Heap} {mg : Str → Option Value} {fa : Addr} (X : K.In h) (G : h.Ns mainGlobals mg) (hfa : mg "law" = some (.ref fa))
    {fBR : Addr} {odBR anBR : Option Addr} {slBR : Array (Option Value)} {ocBR kVBR dcBR pmBR cdBR ctBR : Value}
    {fST : Addr} {odST anST : Option Addr} {slST : Array (Option Value)} {ocST kVST dcST pmST cdST ctST : Value}
    {fTR : Addr} {odTR anTR : Option Addr} {slTR : Array (Option Value)} {ocTR kVTR dcTR pmTR cdTR ctTR : Value}
    {fWI : Addr} {odWI anWI : Option Addr} {slWI : Array (Option Value)} {ocWI kVWI dcWI pmWI cdWI ctWI : Value}
    {fGA : Addr} {odGA anGA : Option Addr} {slGA : Array (Option Value)} {ocGA kVGA dcGA pmGA cdGA ctGA : Value}
    {fDO : Addr} {odDO anDO : Option Addr} {slDO : Array (Option Value)} {ocDO kVDO dcDO pmDO cdDO ctDO : Value}
    {fFE : Addr} {odFE anFE : Option Addr} {slFE : Array (Option Value)} {ocFE kVFE dcFE pmFE cdFE ctFE : Value}
    {fDR : Addr} {odDR anDR : Option Addr} {slDR : Array (Option Value)} {ocDR kVDR dcDR pmDR cdDR ctDR : Value}
    {fNA : Addr} {odNA anNA : Option Addr} {slNA : Array (Option Value)} {ocNA kVNA dcNA pmNA cdNA ctNA : Value}
    {fTE : Addr} {odTE anTE : Option Addr} {slTE : Array (Option Value)} {ocTE kVTE dcTE pmTE cdTE ctTE : Value}
    {fSA : Addr} {odSA anSA : Option Addr} {slSA : Array (Option Value)} {ocSA kVSA dcSA pmSA cdSA ctSA : Value}
    {fAL : Addr} {odAL anAL : Option Addr} {slAL : Array (Option Value)} {ocAL kVAL dcAL pmAL cdAL ctAL : Value}
    {fFI : Addr} {odFI anFI : Option Addr} {slFI : Array (Option Value)} {ocFI kVFI dcFI pmFI cdFI ctFI : Value}
    {fDE : Addr} {odDE anDE : Option Addr} {slDE : Array (Option Value)} {ocDE kVDE dcDE pmDE cdDE ctDE : Value}
    {fLA : Addr} {odLA anLA : Option Addr} {slLA : Array (Option Value)} {ocLA kVLA dcLA pmLA cdLA ctLA : Value}
    (aBR : PySem.W.nsIn K mainGlobals "bracketed" = some (some (.ref fBR)))
    (lBR : K.lookup fBR = some ⟨ocBR, odBR, .func (PySem.W.fnOf "bracketed" "bracketed" (defArgs sBr) (defBody sBr) (defScope sBr) .none kVBR dcBR pmBR anBR cdBR ctBR), slBR⟩)
    (cBR : PySem.W.codeIn K cdBR "bracketed" = true)
    (kBR : PySem.W.keepIn K (.ref fBR) = true)
    (aST : PySem.W.nsIn K mainGlobals "shown_term" = some (some (.ref fST)))
    (lST : K.lookup fST = some ⟨ocST, odST, .func (PySem.W.fnOf "shown_term" "shown_term" (defArgs sSt) (defBody sSt) (defScope sSt) .none kVST dcST pmST anST cdST ctST), slST⟩)
    (cST : PySem.W.codeIn K cdST "shown_term" = true)
    (kST : PySem.W.keepIn K (.ref fST) = true)
    (aTR : PySem.W.nsIn K mainGlobals "terms_right_in" = some (some (.ref fTR)))
    (lTR : K.lookup fTR = some ⟨ocTR, odTR, .func (PySem.W.fnOf "terms_right_in" "terms_right_in" (defArgs sTr) (defBody sTr) (defScope sTr) .none kVTR dcTR pmTR anTR cdTR ctTR), slTR⟩)
    (cTR : PySem.W.codeIn K cdTR "terms_right_in" = true)
    (kTR : PySem.W.keepIn K (.ref fTR) = true)
    (aWI : PySem.W.nsIn K mainGlobals "within" = some (some (.ref fWI)))
    (lWI : K.lookup fWI = some ⟨ocWI, odWI, .func (PySem.W.fnOf "within" "within" (defArgs sWi) (defBody sWi) (defScope sWi) .none kVWI dcWI pmWI anWI cdWI ctWI), slWI⟩)
    (cWI : PySem.W.codeIn K cdWI "within" = true)
    (kWI : PySem.W.keepIn K (.ref fWI) = true)
    (aGA : PySem.W.nsIn K mainGlobals "gather_terms" = some (some (.ref fGA)))
    (lGA : K.lookup fGA = some ⟨ocGA, odGA, .func (PySem.W.fnOf "gather_terms" "gather_terms" (defArgs sGa) (defBody sGa) (defScope sGa) .none kVGA dcGA pmGA anGA cdGA ctGA), slGA⟩)
    (cGA : PySem.W.codeIn K cdGA "gather_terms" = true)
    (kGA : PySem.W.keepIn K (.ref fGA) = true)
    (aDO : PySem.W.nsIn K mainGlobals "depth_of" = some (some (.ref fDO)))
    (lDO : K.lookup fDO = some ⟨ocDO, odDO, .func (PySem.W.fnOf "depth_of" "depth_of" (defArgs sDo) (defBody sDo) (defScope sDo) .none kVDO dcDO pmDO anDO cdDO ctDO), slDO⟩)
    (cDO : PySem.W.codeIn K cdDO "depth_of" = true)
    (kDO : PySem.W.keepIn K (.ref fDO) = true)
    (aFE : PySem.W.nsIn K mainGlobals "_law_feed" = some (some (.ref fFE)))
    (lFE : K.lookup fFE = some ⟨ocFE, odFE, .func (PySem.W.fnOf "_law_feed" "_law_feed" (defArgs sFeed) (defBody sFeed) (defScope sFeed) .none kVFE dcFE pmFE anFE cdFE ctFE), slFE⟩)
    (cFE : PySem.W.codeIn K cdFE "_law_feed" = true)
    (kFE : PySem.W.keepIn K (.ref fFE) = true)
    (aDR : PySem.W.nsIn K mainGlobals "_law_draw" = some (some (.ref fDR)))
    (lDR : K.lookup fDR = some ⟨ocDR, odDR, .func (PySem.W.fnOf "_law_draw" "_law_draw" (defArgs sDraw) (defBody sDraw) (defScope sDraw) .none kVDR dcDR pmDR anDR cdDR ctDR), slDR⟩)
    (cDR : PySem.W.codeIn K cdDR "_law_draw" = true)
    (kDR : PySem.W.keepIn K (.ref fDR) = true)
    (aNA : PySem.W.nsIn K mainGlobals "_law_names" = some (some (.ref fNA)))
    (lNA : K.lookup fNA = some ⟨ocNA, odNA, .func (PySem.W.fnOf "_law_names" "_law_names" (defArgs sNames) (defBody sNames) (defScope sNames) .none kVNA dcNA pmNA anNA cdNA ctNA), slNA⟩)
    (cNA : PySem.W.codeIn K cdNA "_law_names" = true)
    (kNA : PySem.W.keepIn K (.ref fNA) = true)
    (aTE : PySem.W.nsIn K mainGlobals "_law_term" = some (some (.ref fTE)))
    (lTE : K.lookup fTE = some ⟨ocTE, odTE, .func (PySem.W.fnOf "_law_term" "_law_term" (defArgs sTerm) (defBody sTerm) (defScope sTerm) .none kVTE dcTE pmTE anTE cdTE ctTE), slTE⟩)
    (cTE : PySem.W.codeIn K cdTE "_law_term" = true)
    (kTE : PySem.W.keepIn K (.ref fTE) = true)
    (aSA : PySem.W.nsIn K mainGlobals "_law_same" = some (some (.ref fSA)))
    (lSA : K.lookup fSA = some ⟨ocSA, odSA, .func (PySem.W.fnOf "_law_same" "_law_same" (defArgs sSame) (defBody sSame) (defScope sSame) .none kVSA dcSA pmSA anSA cdSA ctSA), slSA⟩)
    (cSA : PySem.W.codeIn K cdSA "_law_same" = true)
    (kSA : PySem.W.keepIn K (.ref fSA) = true)
    (aAL : PySem.W.nsIn K mainGlobals "_law_all" = some (some (.ref fAL)))
    (lAL : K.lookup fAL = some ⟨ocAL, odAL, .func (PySem.W.fnOf "_law_all" "_law_all" (defArgs sAll) (defBody sAll) (defScope sAll) .none kVAL dcAL pmAL anAL cdAL ctAL), slAL⟩)
    (cAL : PySem.W.codeIn K cdAL "_law_all" = true)
    (kAL : PySem.W.keepIn K (.ref fAL) = true)
    (aFI : PySem.W.nsIn K mainGlobals "_law_firsts" = some (some (.ref fFI)))
    (lFI : K.lookup fFI = some ⟨ocFI, odFI, .func (PySem.W.fnOf "_law_firsts" "_law_firsts" (defArgs sFirsts) (defBody sFirsts) (defScope sFirsts) .none kVFI dcFI pmFI anFI cdFI ctFI), slFI⟩)
    (cFI : PySem.W.codeIn K cdFI "_law_firsts" = true)
    (kFI : PySem.W.keepIn K (.ref fFI) = true)
    (aDE : PySem.W.nsIn K mainGlobals "_law_deep" = some (some (.ref fDE)))
    (lDE : K.lookup fDE = some ⟨ocDE, odDE, .func (PySem.W.fnOf "_law_deep" "_law_deep" (defArgs sDeep) (defBody sDeep) (defScope sDeep) .none kVDE dcDE pmDE anDE cdDE ctDE), slDE⟩)
    (cDE : PySem.W.codeIn K cdDE "_law_deep" = true)
    (kDE : PySem.W.keepIn K (.ref fDE) = true)
    (aLA : PySem.W.nsIn K mainGlobals "law" = some (some (.ref fLA)))
    (lLA : K.lookup fLA = some ⟨ocLA, odLA, .func (PySem.W.fnOf "law" "law" (defArgs sLaw) (defBody sLaw) (defScope sLaw) .none kVLA dcLA pmLA anLA cdLA ctLA), slLA⟩)
    (cLA : PySem.W.codeIn K cdLA "law" = true)
    (kLA : PySem.W.keepIn K (.ref fLA) = true)
    (z_len : PySem.W.nsIn K mainGlobals "len" = some none)
    (z_range : PySem.W.nsIn K mainGlobals "range" = some none)
    (z_isinstance : PySem.W.nsIn K mainGlobals "isinstance" = some none)
    (z_tuple : PySem.W.nsIn K mainGlobals "tuple" = some none)
    (z_int : PySem.W.nsIn K mainGlobals "int" = some none)
    (z_bool : PySem.W.nsIn K mainGlobals "bool" = some none)
    (z_list : PySem.W.nsIn K mainGlobals "list" = some none)
    (z_sum : PySem.W.nsIn K mainGlobals "sum" = some none)
    (z_str : PySem.W.nsIn K mainGlobals "str" = some none)
    (z_all : PySem.W.nsIn K mainGlobals "all" = some none)
    (z_max : PySem.W.nsIn K mainGlobals "max" = some none) :
    ∃ fd : FuncData, (∀ (s : Shared) (v : Value), BindsTo s fd ⟨[v], []⟩ [("_law_script", v)]) ∧ ∀ base : Heap, K.In base → base.Ns mainGlobals mg → FnOk l.prog w K mg base CX0 13 fa fd ["_law_script"] (spLaw K) := by
  have e := hfa.symm.trans (PySem.W.mg_of X G aLA)
  cases e
  have B : Blt mg := ⟨PySem.W.mg_none_of X G z_len, PySem.W.mg_none_of X G z_range, PySem.W.mg_none_of X G z_isinstance, PySem.W.mg_none_of X G z_tuple, PySem.W.mg_none_of X G z_int, PySem.W.mg_none_of X G z_bool, PySem.W.mg_none_of X G z_list, PySem.W.mg_none_of X G z_sum, PySem.W.mg_none_of X G z_str, PySem.W.mg_none_of X G z_all, PySem.W.mg_none_of X G z_max⟩
  have FBR := fun_mk (st := sBr) lBR cBR kBR
  have bBR := FBR.binds (ps := ["words"]) fun _ _ _ _ _ _ us hl => match us, hl with | [_], _ => rfl
  have mBR := PySem.W.mg_of X G aBR
  have FST := fun_mk (st := sSt) lST cST kST
  have bST := FST.binds (ps := ["term"]) fun _ _ _ _ _ _ us hl => match us, hl with | [_], _ => rfl
  have mST := PySem.W.mg_of X G aST
  have FTR := fun_mk (st := sTr) lTR cTR kTR
  have bTR := FTR.binds (ps := ["term"]) fun _ _ _ _ _ _ us hl => match us, hl with | [_], _ => rfl
  have mTR := PySem.W.mg_of X G aTR
  have FWI := fun_mk (st := sWi) lWI cWI kWI
  have bWI := FWI.binds (ps := ["term"]) fun _ _ _ _ _ _ us hl => match us, hl with | [_], _ => rfl
  have mWI := PySem.W.mg_of X G aWI
  have FGA := fun_mk (st := sGa) lGA cGA kGA
  have bGA := FGA.binds (ps := ["term", "found"]) fun _ _ _ _ _ _ us hl => match us, hl with | [_, _], _ => rfl
  have mGA := PySem.W.mg_of X G aGA
  have FDO := fun_mk (st := sDo) lDO cDO kDO
  have bDO := FDO.binds (ps := ["term"]) fun _ _ _ _ _ _ us hl => match us, hl with | [_], _ => rfl
  have mDO := PySem.W.mg_of X G aDO
  have FFE := fun_mk (st := sFeed) lFE cFE kFE
  have bFE := FFE.binds (ps := ["_law_script"]) fun _ _ _ _ _ _ us hl => match us, hl with | [_], _ => rfl
  have mFE := PySem.W.mg_of X G aFE
  have FDR := fun_mk (st := sDraw) lDR cDR kDR
  have bDR := FDR.binds (ps := ["_law_feed_here", "_law_many"]) fun _ _ _ _ _ _ us hl => match us, hl with | [_, _], _ => rfl
  have mDR := PySem.W.mg_of X G aDR
  have FNA := fun_mk (st := sNames) lNA cNA kNA
  have bNA := FNA.binds (ps := ["_law_feed_here"]) fun _ _ _ _ _ _ us hl => match us, hl with | [_], _ => rfl
  have mNA := PySem.W.mg_of X G aNA
  have FTE := fun_mk (st := sTerm) lTE cTE kTE
  have bTE := FTE.binds (ps := ["_law_feed_here", "_law_names_here", "_law_deep_here"]) fun _ _ _ _ _ _ us hl => match us, hl with | [_, _, _], _ => rfl
  have mTE := PySem.W.mg_of X G aTE
  have FSA := fun_mk (st := sSame) lSA cSA kSA
  have bSA := FSA.binds (ps := ["_law_found", "_law_due"]) fun _ _ _ _ _ _ us hl => match us, hl with | [_, _], _ => rfl
  have mSA := PySem.W.mg_of X G aSA
  have FAL := fun_mk (st := sAll) lAL cAL kAL
  have bAL := FAL.binds (ps := ["_law_term_here"]) fun _ _ _ _ _ _ us hl => match us, hl with | [_], _ => rfl
  have mAL := PySem.W.mg_of X G aAL
  have FFI := fun_mk (st := sFirsts) lFI cFI kFI
  have bFI := FFI.binds (ps := ["_law_things"]) fun _ _ _ _ _ _ us hl => match us, hl with | [_], _ => rfl
  have mFI := PySem.W.mg_of X G aFI
  have FDE := fun_mk (st := sDeep) lDE cDE kDE
  have bDE := FDE.binds (ps := ["_law_term_here"]) fun _ _ _ _ _ _ us hl => match us, hl with | [_], _ => rfl
  have mDE := PySem.W.mg_of X G aDE
  have FLA := fun_mk (st := sLaw) lLA cLA kLA
  refine ⟨PySem.W.fnOf "law" "law" (defArgs sLaw) (defBody sLaw) (defScope sLaw) .none kVLA dcLA pmLA anLA cdLA ctLA, fun s v => .of_eq rfl, fun base _ _ => ?_⟩
  have gTR : FnOk l.prog w K mg base CX0 1 fTR _ ["term"] spTr := ok_tr FTR B
  have gST : ∀ n, FnOk l.prog w K mg base CX0 (n + 1) fST _ ["term"] (spSt n) := ok_st FST bST mST FBR bBR mBR
  have gGA : FnOk l.prog w K mg base CX0 8 fGA _ ["term", "found"] (spGa 5) := ok_ga FGA bGA mGA gTR kTR bTR mTR gST kST bST mST 5
  have gWI : FnOk l.prog w K mg base CX0 9 fWI _ ["term"] spWi := ok_wi FWI gGA kGA bGA mGA B
  have gDO : FnOk l.prog w K mg base CX0 6 fDO _ ["term"] (spDo 5) := ok_do FDO bDO mDO gTR kTR bTR mTR B 5
  exact ok_law FLA B (ok_feed FFE B) kFE bFE mFE (ok_names FNA B FDR bDR mDR) kNA bNA mNA (ok_term FTE bTE mTE B FDR bDR mDR 5) kTE bTE mTE (ok_fi FFI) kFI bFI mFI (ok_all FAL bAL mAL 5) kAL bAL mAL gWI kWI bWI mWI (ok_sm FSA bSA mSA B 11) kSA bSA mSA gDO kDO bDO mDO (ok_deep FDE B) kDE bDE mDE
theorem walk {l : PySem.W.OpenLaw} {q : Program} {loose : List Str} {XP : (Str → Option Value) → Heap → Prop} {YP : World → Heap → Prop} {d : DefRec} {K : Params → PySem.W.Frag} (hn : l.most = some 63) (hdf : d.params.defaults = [])
    (hY : ∀ (w : World) (h : Heap), YP w h → (K w.params).In h)
    (F : ∀ (w : World) (mg : Str → Option Value) (fa : Addr) (h : Heap), (K w.params).In h → h.Ns mainGlobals mg → mg d.name = some (.ref fa) →
      ∃ fd : FuncData, (∀ (s : Shared) (u : Value), BindsTo s fd ⟨[u], []⟩ [("_law_script", u)]) ∧ ∀ base : Heap, (K w.params).In base → base.Ns mainGlobals mg → FnOk l.prog w (K w.params) mg base CX0 13 fa fd ["_law_script"] (spLaw (K w.params))) :
    PySem.W.WalkO q loose XP YP l.row.toRowW d [] (fun f vs => PySem.call f vs) :=
  L2.walk_of (n := 63) (k := 13) (x := "_law_script") (CX := fun _ => CX0) (sp := fun w => spLaw (K w.params)) hn (by decide) hdf ⟨rfl, by decide, by decide⟩ hY F (fun _ _ a ns hl _ hS => ⟨a, ns, rfl, hS, hl, fun _ => rfl⟩) fun _ _ _ _ _ z => z
end K06
open PySem PySem.W PyProof.Rows
set_option maxRecDepth 100000 in
set_option maxHeartbeats 0 in
theorem PySem.Challenge.cw_smallword_k06_within_and_depth_holds : PySem.Challenge.rw_smallword_k06_within_and_depth.Holds := by
  w_on; o_law; k_head; (case hw => w_witness2)
  k_fill
  refine K06.walk (l := PySem.Challenge.rw_smallword_k06_within_and_depth) rfl rfl (fun w h Y => PySem.W.kIn_of Y) ?F
  case F =>
    intro w mg fa h KX G hmg
    refine' K06.all_mk KX G hmg ?aBR ?lBR ?cBR ?kBR ?aST ?lST ?cST ?kST ?aTR ?lTR ?cTR ?kTR ?aWI ?lWI ?cWI ?kWI ?aGA ?lGA ?cGA ?kGA ?aDO ?lDO ?cDO ?kDO ?aFE ?lFE ?cFE ?kFE ?aDR ?lDR ?cDR ?kDR ?aNA ?lNA ?cNA ?kNA ?aTE ?lTE ?cTE ?kTE ?aSA ?lSA ?cSA ?kSA ?aAL ?lAL ?cAL ?kAL ?aFI ?lFI ?cFI ?kFI ?aDE ?lDE ?cDE ?kDE ?aLA ?lLA ?cLA ?kLA ?z_len ?z_range ?z_isinstance ?z_tuple ?z_int ?z_bool ?z_list ?z_sum ?z_str ?z_all ?z_max
    (case aBR => k_is); (case lBR => k_is); (case cBR => k_is); (case kBR => k_is); (case aST => k_is); (case lST => k_is); (case cST => k_is); (case kST => k_is)
    (case aTR => k_is); (case lTR => k_is); (case cTR => k_is); (case kTR => k_is); (case aWI => k_is); (case lWI => k_is); (case cWI => k_is); (case kWI => k_is)
    (case aGA => k_is); (case lGA => k_is); (case cGA => k_is); (case kGA => k_is); (case aDO => k_is); (case lDO => k_is); (case cDO => k_is); (case kDO => k_is)
    (case aFE => k_is); (case lFE => k_is); (case cFE => k_is); (case kFE => k_is); (case aDR => k_is); (case lDR => k_is); (case cDR => k_is); (case kDR => k_is)
    (case aNA => k_is); (case lNA => k_is); (case cNA => k_is); (case kNA => k_is); (case aTE => k_is); (case lTE => k_is); (case cTE => k_is); (case kTE => k_is)
    (case aSA => k_is); (case lSA => k_is); (case cSA => k_is); (case kSA => k_is); (case aAL => k_is); (case lAL => k_is); (case cAL => k_is); (case kAL => k_is)
    (case aFI => k_is); (case lFI => k_is); (case cFI => k_is); (case kFI => k_is); (case aDE => k_is); (case lDE => k_is); (case cDE => k_is); (case kDE => k_is)
    (case aLA => k_is); (case lLA => k_is); (case cLA => k_is); (case kLA => k_is); (case z_len => k_is); (case z_range => k_is); (case z_isinstance => k_is); (case z_tuple => k_is)
    (case z_int => k_is); (case z_bool => k_is); (case z_list => k_is); (case z_sum => k_is); (case z_str => k_is); (case z_all => k_is); (case z_max => k_is)


