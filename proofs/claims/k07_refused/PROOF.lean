import PyProof.Rows.All
import Wide.All
import OpenK.AllK
import Wide.FinOn
import Lean
import PyProof.EqAt
import PyProof.EqKinds
import PyProof.TupleCall
import PyProof.StrLawsIn
import PyProof.Draws
import PyProof.EnumMake
import PyProof.Rows.EnumRows
import PyProof.ExcArgsOwn
import PyProof.ExcAttrAll.ValueError
import PyProof.RulesAs
import PySem.Challenge.RW_foldcurve_k07_refused
set_option Elab.async false
set_option linter.all false
set_option maxRecDepth 100000
namespace L2
open PySem PySem.Spec PyProof.Rows

/-- a key: an int or a str -/
abbrev Key := Sum Int Str
def keyIs : Key → Value → Bool
  | .inl k, v => Value.isInt k v
  | .inr x, v => Value.isStrOf x v
def keyH (w : World) : Key → Int
  | .inl k => hashInt k
  | .inr x => hashStr w x
theorem keyIs_shape : ∀ {k : Key} {v : Value}, keyIs k v = true → (∃ i t, k = Sum.inl i ∧ v = Value.int i t) ∨ (∃ x t, k = Sum.inr x ∧ v = Value.str x t)
  | .inl i, v, h => by
    obtain ⟨t, e⟩ := Value.isInt_shape (k := i) (v := v) h
    exact .inl ⟨i, t, rfl, e⟩
  | .inr x, v, h => by
    obtain ⟨t, e⟩ := Value.isStrOf_shape (x := x) (v := v) h
    exact .inr ⟨x, t, rfl, e⟩
theorem key_ll (a b : Int) : decide ((Sum.inl a : Key) = Sum.inl b) = (a == b) := by
  by_cases e : a = b
  · subst e; simp
  · have h : ¬ (Sum.inl a : Key) = Sum.inl b := fun q => e (Sum.inl.inj q)
    rw [decide_eq_false h]
    exact (beq_eq_false_iff_ne.mpr e).symm
theorem key_rr (a b : Str) : decide ((Sum.inr a : Key) = Sum.inr b) = decide (a = b) := by
  by_cases e : a = b
  · subst e; simp
  · have h : ¬ (Sum.inr a : Key) = Sum.inr b := fun q => e (Sum.inr.inj q)
    rw [decide_eq_false h, decide_eq_false e]
theorem key_lr (a : Int) (b : Str) : decide ((Sum.inl a : Key) = Sum.inr b) = false := decide_eq_false (fun q => nomatch q)
theorem key_rl (a : Str) (b : Int) : decide ((Sum.inr a : Key) = Sum.inl b) = false := decide_eq_false (fun q => nomatch q)

def mixKind (prog : Program) (w : World) : PySem.KeyKind prog w Key where
  is := keyIs
  hash := keyH w
  inj := fun v a b ha hb => by
    rcases keyIs_shape ha with ⟨i, t, rfl, rfl⟩ | ⟨x, t, rfl, rfl⟩
    · rcases keyIs_shape hb with ⟨j, u, rfl, e⟩ | ⟨y, u, rfl, e⟩
      · injection e with e1 _; rw [e1]
      · exact nomatch e
    · rcases keyIs_shape hb with ⟨j, u, rfl, e⟩ | ⟨y, u, rfl, e⟩
      · exact nomatch e
      · injection e with e1 _; rw [e1]
  byValue := fun k v h => by
    rcases keyIs_shape h with ⟨i, t, rfl, rfl⟩ | ⟨x, t, rfl, rfl⟩ <;> rfl
  pyHash := fun hv h => by
    rcases keyIs_shape hv with ⟨i, t, rfl, rfl⟩ | ⟨x, t, rfl, rfl⟩
    · exact wpAny_pyHash_int h
    · exact wpAny_pyHash_str h
  eqBool := fun hu hv h => by
    rcases keyIs_shape hu with ⟨i, t, rfl, rfl⟩ | ⟨x, t, rfl, rfl⟩
    · rcases keyIs_shape hv with ⟨j, u, rfl, rfl⟩ | ⟨y, u, rfl, rfl⟩
      · rw [key_ll] at h; exact wpAny_eqBool_int h
      · rw [key_lr] at h; exact SeqAt.EqAt.int_str i t y u _ _ _ _ h
    · rcases keyIs_shape hv with ⟨j, u, rfl, rfl⟩ | ⟨y, u, rfl, rfl⟩
      · rw [key_rl] at h; exact SeqAt.EqAt.str_int x t j u _ _ _ _ h
      · rw [key_rr] at h; exact wpAny_eqBool_str h
  «strs» := fun k x t v h => by
    rcases keyIs_shape h with ⟨i, u, rfl, e⟩ | ⟨y, u, rfl, e⟩
    · exact nomatch e
    · injection e with e1 _
      subst e1
      cases v <;> rfl

end L2

namespace L2
open PySem PySem.Spec PyProof.Rows

/-- a value, without the heap -/
inductive V where
  | non | bl (b : Bool) | int (i : Int) | str (x : Str) | byt (b : Array UInt8) | flt (b : UInt64) | ref (a : Addr) | ty (n : String)
  deriving DecidableEq

def RelV : V → Value → Prop
  | .non, u => u = Value.none
  | .bl b, u => u = Value.bool b
  | .int i, u => ∃ t, u = Value.int i t
  | .str x, u => ∃ t, u = Value.str x t
  | .byt b, u => ∃ t, u = Value.bytes b t
  | .flt b, u => ∃ t, u = Value.float b t
  | .ref a, u => u = Value.ref a
  | .ty n, u => u = Value.type n

abbrev Vals : List V → List Value → Prop := Paired RelV
theorem Vals.length {xs : List V} {us : List Value} (r : Vals xs us) : xs.length = us.length := Paired.length r
theorem Vals.get : ∀ {xs : List V} {us : List Value} {i : Nat} {x : V}, Vals xs us → xs[i]? = some x → ∃ u, us[i]? = some u ∧ RelV x u
  | _, _, _, _, .nil, e => by simp at e
  | _, _, 0, _, .cons r _, e => by simp at e; subst e; exact ⟨_, rfl, r⟩
  | _, _, i + 1, x, .cons _ t, e => by
    obtain ⟨u, h1, h2⟩ := Vals.get (i := i) (x := x) t (by simpa using e)
    exact ⟨u, by simpa using h1, h2⟩
theorem Vals.set {x : V} {u : Value} (r : RelV x u) : ∀ {xs : List V} {us : List Value} (i : Nat), Vals xs us → Vals (xs.set i x) (us.set i u)
  | _, _, _, .nil => .nil
  | _, _, 0, .cons _ t => .cons r t
  | _, _, i + 1, .cons q t => .cons q (Vals.set r i t)
theorem Vals.append : ∀ {xs ys : List V} {us ws : List Value}, Vals xs us → Vals ys ws → Vals (xs ++ ys) (us ++ ws)
  | _, _, _, _, .nil, s => s
  | _, _, _, _, .cons r t, s => .cons r (Vals.append t s)
theorem Vals.take : ∀ {xs : List V} {us : List Value} (n : Nat), Vals xs us → Vals (xs.take n) (us.take n)
  | _, _, 0, _ => .nil
  | _, _, _ + 1, .nil => .nil
  | _, _, n + 1, .cons r t => .cons r (Vals.take n t)
theorem Vals.drop : ∀ {xs : List V} {us : List Value} (n : Nat), Vals xs us → Vals (xs.drop n) (us.drop n)
  | _, _, 0, r => r
  | _, _, _ + 1, .nil => .nil
  | _, _, n + 1, .cons _ t => Vals.drop n t
def RelO : Option V → Option Value → Prop
  | some v, some u => RelV v u
  | none, none => True
  | _, _ => False
def KV {κ : Type} : List (κ × V) → List (κ × Value) → Prop := Paired fun (p : κ × V) (q : κ × Value) => p.1 = q.1 ∧ RelV p.2 q.2

/-- a key of a dict (00_mix): an int or a text -/
def kV : Key → V
  | .inl i => .int i
  | .inr x => .str x

/-- what stands at a tracked address -/
inductive HO where
  /-- a list -/
  | lst (xs : List V)
  /-- a tuple (never changes) -/
  | tup (xs : List V)
  /-- a dict whose keys are ints and texts; one whose keys are tuples of ints and texts (the empty one is both) -/
  | dK (kvs : List (Key × V)) | dT (kvs : List (List Key × V))
  /-- a set of ints: its members, its size -/
  | set (S : Int → Bool) (n : Nat)
  /-- an instance of the class at C, its dict at dx, its attributes -/
  | ins (C dx : Addr) (fs : List (Str × V))
  /-- the dict of the instance at x -/
  | own (x : Addr)
  /-- the dict of an exception -/
  | xd (fs : List (Str × V))
  /-- a bound method, f of x -/
  | met (f x : Addr)
  /-- a range object lo, lo + 1, .. below hi -/
  | rng (lo hi : Int)
  /-- a thing that is known to the object (the script; a dict while a loop walks it): read, never written while it is so -/
  | frz (o : Obj) (u : HO)
  /-- a code object's table -/
  | tbl (ps : Array Value)
  /-- any other thing, by what is true of its one object (a def of one's own: SetO a S n := HO.ext fun h => ..) -/
  | ext (φ : Heap → Prop)

abbrev Hp := Addr → Option HO
def upd (H : Hp) (a : Addr) (o : HO) : Hp := fun b => if b = a then some o else H b
theorem upd_same {H : Hp} {a : Addr} {o : HO} : upd H a o a = some o := by unfold upd; rw [if_pos rfl]
theorem upd_ne {H : Hp} {a b : Addr} {o : HO} (h : b ≠ a) : upd H a o b = H b := by unfold upd; rw [if_neg h]
theorem upd_upd {H : Hp} {a : Addr} {o u : HO} : upd (upd H a o) a u = upd H a u := by
  funext b; unfold upd; split <;> rfl
theorem ne_of_none {H : Hp} {a b : Addr} {o : HO} (h : H a = some o) (h' : H b = none) : a ≠ b := by
  intro e; subst e; rw [h] at h'; cases h'

section
variable (P : Program) (w : World)
def ObjOk (H : Hp) (h : Heap) (a : Addr) : HO → Prop
  | .lst xs => xs.length ≤ sizeLine ∧ ∃ (its : List Value) (n : Nat), Vals xs its ∧ h.get? a = some { cls := .type "list", data := .seq its.toArray n }
  | .tup xs => xs.length ≤ sizeLine ∧ ∃ its : List Value, Vals xs its ∧ IsTup h a its.toArray
  | .dK kvs => kvs.length ≤ sizeLine ∧ (a == sysModules) = false ∧ ∃ vs, KV kvs vs ∧ h.DictOf (mixKind P w) a vs
  | .dT kvs => kvs.length ≤ sizeLine ∧ (a == sysModules) = false ∧ ∃ xs : List (List Key × Addr × Value),
      Paired (fun (p : List Key × V) (q : List Key × Addr × Value) => p.1 = q.1 ∧ H q.2.1 = some (.tup (p.1.map kV)) ∧ RelV p.2 q.2.2) kvs xs ∧
      ∃ o es ep, h.get? a = some o ∧ o.ExactDict ∧ o.data = .dict es ep ∧ es.toList = xs.map (entryOfKey (tupleKind (mixKind P w))) ∧ (xs.map (·.1)).Nodup
  | .set S n => h.SetOf (intKind P w) a S n
  | .ins C dx fs => H dx = some (.own a) ∧ fs.length ≤ 1000 ∧ dx ≠ a ∧ h.get? a = some (PySem.W.instObj C dx) ∧
      ∃ mA, h.Ns1 dx mA ∧ (∀ f, RelO (fs.lookup f) (mA f)) ∧ PySem.Within mA (fs.map (·.1))
  | .own _ => ∃ o, h.get? a = some o
  | .xd fs => ∃ mA, h.Ns1 a mA ∧ ∀ f, RelO (fs.lookup f) (mA f)
  | .rng lo hi => ∃ t u v, h.get? a = some { cls := .type "range", data := .fields #[.int lo t, .int hi u, .int 1 v] }
  | .frz o u => h.get? a = some o ∧ ObjOk H h a u
  | .tbl ps => h.get? a = some { cls := .none, data := .fields ps }
  | .met f x => h.get? a = some (PySem.W.methodObj (.ref f) (.ref x))
  | .ext φ => φ h ∧ (∃ o, h.get? a = some o) ∧ ∀ h1 h2 : Heap, φ h1 → (∀ o, h1.get? a = some o → h2.get? a = some o) → φ h2
/-- the abstract heap is held -/
def HOk (H : Hp) (h : Heap) : Prop := ∀ a o, H a = some o → ObjOk P w H h a o
end

section
variable {P : Program} {w : World} {H H' : Hp} {h h' : Heap} {a : Addr} {o : HO}
theorem ObjOk.lt (x : ObjOk P w H h a o) : a < h.objs.size := by
  cases o with
  | lst xs => obtain ⟨_, _, _, _, e⟩ := x; exact Heap.lt_size e
  | tup xs => obtain ⟨_, _, _, p⟩ := x; exact p.lt
  | dK kvs => obtain ⟨_, _, _, _, o, _, _, e, _⟩ := x; exact Heap.lt_size e
  | dT kvs => obtain ⟨_, _, _, _, o, _, _, e, _⟩ := x; exact Heap.lt_size e
  | set S n => obtain ⟨o, _, _, _, e, _⟩ := x; exact Heap.lt_size e
  | ins C dx fs => obtain ⟨_, _, _, e, _⟩ := x; exact Heap.lt_size e
  | own y => obtain ⟨_, e⟩ := x; exact Heap.lt_size e
  | xd fs => obtain ⟨_, ⟨_, _, _, e, _⟩, _⟩ := x; exact Heap.lt_size e
  | rng lo hi => obtain ⟨_, _, _, e⟩ := x; exact Heap.lt_size e
  | frz ob u => obtain ⟨e, _⟩ := x; exact Heap.lt_size e
  | tbl ps => exact Heap.lt_size (show h.get? a = some _ from x)
  | met f y => exact Heap.lt_size (show h.get? a = some _ from x)
  | ext φ => obtain ⟨_, ⟨_, e⟩, _⟩ := x; exact Heap.lt_size e
theorem Paired.mapP {α β : Type} {F G : α → β → Prop} : ∀ {l₁ : List α} {l₂ : List β}, Paired F l₁ l₂ → (∀ a b, F a b → G a b) → Paired G l₁ l₂
  | _, _, .nil, _ => .nil
  | _, _, .cons r t, f => .cons (f _ _ r) (Paired.mapP t f)
/-- what an object's description leans on: its own object, its own dict, the tuples -/
theorem ObjOk.stay (x : ObjOk P w H h a o) (k : ∀ b u, (b = a ∨ H b = some (.own a)) → h.get? b = some u → h'.get? b = some u)
    (ho : ∀ b, H b = some (.own a) → H' b = some (.own a)) (ht : ∀ b xs, H b = some (.tup xs) → H' b = some (.tup xs)) : ObjOk P w H' h' a o := by
  induction o with
  | lst xs => obtain ⟨z, its, n, r, e⟩ := x; exact ⟨z, its, n, r, k _ _ (.inl rfl) e⟩
  | tup xs => obtain ⟨z, its, r, ob, e, c⟩ := x; exact ⟨z, its, r, ob, k _ _ (.inl rfl) e, c⟩
  | dK kvs => obtain ⟨z, y, vs, r, ob, es, ep, e, c⟩ := x; exact ⟨z, y, vs, r, ob, es, ep, k _ _ (.inl rfl) e, c⟩
  | dT kvs =>
    obtain ⟨z, y, xs, r, ob, es, ep, e, c⟩ := x
    exact ⟨z, y, xs, Paired.mapP r fun p q z => ⟨z.1, ht _ _ z.2.1, z.2.2⟩, ob, es, ep, k _ _ (.inl rfl) e, c⟩
  | set S n => obtain ⟨ob, es, ep, t, e, c⟩ := x; exact ⟨ob, es, ep, t, k _ _ (.inl rfl) e, c⟩
  | ins C dx fs =>
    obtain ⟨d, z, ne, e, mA, ⟨od, es, ep, e2, c⟩, r⟩ := x
    exact ⟨ho _ d, z, ne, k _ _ (.inl rfl) e, mA, ⟨od, es, ep, k _ _ (.inr d) e2, c⟩, r⟩
  | own y => obtain ⟨ob, e⟩ := x; exact ⟨ob, k _ _ (.inl rfl) e⟩
  | xd fs => obtain ⟨mA, ⟨od, es, ep, e, c⟩, r⟩ := x; exact ⟨mA, ⟨od, es, ep, k _ _ (.inl rfl) e, c⟩, r⟩
  | rng lo hi => obtain ⟨t, u, v, e⟩ := x; exact ⟨t, u, v, k _ _ (.inl rfl) e⟩
  | frz ob u ih => obtain ⟨e, q⟩ := x; exact ⟨k _ _ (.inl rfl) e, ih q⟩
  | tbl ps =>
    have e : h.get? a = some { cls := .none, data := .fields ps } := x
    show h'.get? a = some { cls := .none, data := .fields ps }
    exact k a _ (.inl rfl) e
  | met f y =>
    have e : h.get? a = some (PySem.W.methodObj (.ref f) (.ref y)) := x
    show h'.get? a = some (PySem.W.methodObj (.ref f) (.ref y))
    exact k a _ (.inl rfl) e
  | ext φ => obtain ⟨p, ⟨o, e⟩, st⟩ := x; exact ⟨st _ _ p fun o q => k _ _ (.inl rfl) q, ⟨o, k _ _ (.inl rfl) e⟩, st⟩
theorem HOk.lt (x : HOk P w H h) (e : H a = some o) : a < h.objs.size := (x a o e).lt
theorem HOk.fresh (x : HOk P w H h) (e : h.objs.size ≤ a) : H a = none := by
  cases q : H a with
  | none => rfl
  | some u => exact absurd (Nat.lt_of_lt_of_le (x.lt q) e) (Nat.lt_irrefl _)
/-- every object of the heap is kept -/
theorem HOk.kept (x : HOk P w H h) (k : ∀ b u, h.get? b = some u → h'.get? b = some u) : HOk P w H h' := fun a o e =>
  (x a o e).stay (fun b u _ q => k b u q) (fun _ q => q) fun _ _ q => q
/-- a new object is laid and tracked -/
theorem HOk.laid (x : HOk P w H h) (k : ∀ b u, h.get? b = some u → h'.get? b = some u) (hp : h.objs.size ≤ a) (new : ObjOk P w (upd H a o) h' a o) : HOk P w (upd H a o) h' := fun b u e => by
  have hn := x.fresh hp
  by_cases hb : b = a
  · subst hb; rw [upd_same] at e; cases e; exact new
  · rw [upd_ne hb] at e
    exact (x b u e).stay (fun c v _ q => k c v q) (fun c q => by rw [upd_ne (ne_of_none q hn)]; exact q) fun c xs q => by rw [upd_ne (ne_of_none q hn)]; exact q
end

/-- what may be read as u: it is u, or a known u -/
def Rd (H : Hp) (a : Addr) (u : HO) : Prop := H a = some u ∨ ∃ o, H a = some (.frz o u)
theorem Rd.of {H : Hp} {a : Addr} {u : HO} (h : H a = some u) : Rd H a u := .inl h
theorem Rd.ok {P : Program} {w : World} {H : Hp} {h : Heap} {a : Addr} {u : HO} (r : Rd H a u) (x : HOk P w H h) : ObjOk P w H h a u := by
  rcases r with r | ⟨o, r⟩
  · exact x a u r
  · obtain ⟨_, q⟩ := x a _ r
    exact q
/-- what may be written -/
def Mut : Option HO → Prop
  | some (.lst _) => True
  | some (.dK _) => True
  | some (.dT _) => True
  | some (.set _ _) => True
  | some (.ins _ _ _) => True
  | some (.ext _) => True
  | _ => False
section
variable {P : Program} {w : World} {H : Hp} {h h' : Heap} {x e : Addr} {o' : HO}
/-- the object at e is changed: x itself, or the dict of the instance x -/
theorem HOk.write (ok : HOk P w H h) (mu : Mut (H x)) (he : e = x ∨ H e = some (.own x)) (k : ∀ b u, b ≠ e → h.get? b = some u → h'.get? b = some u) (heo : ∃ u, h'.get? e = some u)
    (new : ObjOk P w (upd H x o') h' x o') : HOk P w (upd H x o') h' := fun b u q => by
  have nown : ∀ c y, H c = some (.own y) → c ≠ x := fun c y r z => by subst z; rw [r] at mu; exact mu
  have ntup : ∀ c xs, H c = some (.tup xs) → c ≠ x := fun c xs r z => by subst z; rw [r] at mu; exact mu
  by_cases hb : b = x
  · subst hb; rw [upd_same] at q; cases q; exact new
  · rw [upd_ne hb] at q
    by_cases hbe : b = e
    · have q' : H b = some (.own x) := by
        rcases he with z | z
        · exact absurd (hbe.trans z) hb
        · rw [hbe]; exact z
      rw [q] at q'; cases q'
      obtain ⟨v, hv⟩ := heo
      exact ⟨v, by rw [hbe]; exact hv⟩
    · refine (ok b u q).stay (fun c v hc r => k c v ?_ r) (fun c r => by rw [upd_ne (nown c b r)]; exact r) fun c xs r => by rw [upd_ne (ntup c xs r)]; exact r
      rcases hc with rfl | hc
      · exact hbe
      · rintro rfl
        rcases he with z | z
        · exact nown c b hc z
        · rw [hc] at z; cases z; exact hb rfl
end

structure Un (fs ex : List Addr) (H H' : Hp) (h h' : Heap) : Prop where
  keep : ∀ b o, h.get? b = some o → H b = none → b ∉ fs → b ∉ ex → h'.get? b = some o
  slot : ∀ b o, h.get? b = some o → H b = none → b ∈ fs → b ∉ ex → ∃ sl, h'.get? b = some { o with slots := sl }
  free : ∀ b o, h.get? b = some o → H b = none → b ∉ ex → H' b = none
  there : ∀ b o, h.get? b = some o → b ∉ ex → ∃ o', h'.get? b = some o'
  tups : ∀ b xs, H b = some (.tup xs) → H' b = some (.tup xs)
  frzs : ∀ b o u, H b = some (.frz o u) → H' b = some (.frz o u)
  tbls : ∀ b ps, H b = some (.tbl ps) → ∃ more, H' b = some (.tbl (ps ++ more))
section
variable {fs fs' ex ex' : List Addr} {H H1 H2 : Hp} {h h1 h2 h' : Heap} {a x e : Addr} {o : HO}
theorem Un.any (u : Un fs ex H H1 h h1) {b : Addr} {ob : Obj} (q : h.get? b = some ob) (n : H b = none) (hx : b ∉ ex) : ∃ sl, h1.get? b = some { ob with slots := sl } := by
  by_cases hb : b ∈ fs
  · exact u.slot b ob q n hb hx
  · exact ⟨ob.slots, u.keep b ob q n hb hx⟩
theorem Un.trans (a : Un fs ex H H1 h h1) (b : Un fs ex H1 H2 h1 h2) : Un fs ex H H2 h h2 where
  keep := fun c ob q n hc hx => b.keep c ob (a.keep c ob q n hc hx) (a.free c ob q n hx) hc hx
  slot := fun c ob q n hc hx => by
    obtain ⟨sl, e1⟩ := a.slot c ob q n hc hx
    obtain ⟨sl', e2⟩ := b.slot c _ e1 (a.free c ob q n hx) hc hx
    exact ⟨sl', e2⟩
  free := fun c ob q n hx => by
    obtain ⟨o', e1⟩ := a.there c ob q hx
    exact b.free c o' e1 (a.free c ob q n hx) hx
  there := fun c ob q hx => by
    obtain ⟨o', e1⟩ := a.there c ob q hx
    exact b.there c o' e1 hx
  tups := fun c xs q => b.tups c xs (a.tups c xs q)
  frzs := fun c ob xs q => b.frzs c ob xs (a.frzs c ob xs q)
  tbls := fun c ps q => by
    obtain ⟨m1, e1⟩ := a.tbls c ps q
    obtain ⟨m2, e2⟩ := b.tbls c _ e1
    exact ⟨m1 ++ m2, by rw [e2, Array.append_assoc]⟩
theorem Un.kept (k : ∀ b u, h.get? b = some u → h'.get? b = some u) : Un fs ex H H h h' :=
  ⟨fun b ob q _ _ _ => k b ob q, fun b ob q _ _ _ => ⟨ob.slots, k b ob q⟩, fun _ _ _ n _ => n, fun b ob q _ => ⟨ob, k b ob q⟩, fun _ _ q => q, fun _ _ _ q => q, fun _ ps q => ⟨#[], by rw [q]; simp⟩⟩
theorem Un.refl : Un fs ex H H h h := Un.kept fun _ _ q => q
theorem Un.laid (k : ∀ b u, h.get? b = some u → h'.get? b = some u) (hp : h.objs.size ≤ a) (hn : H a = none) : Un fs ex H (upd H a o) h h' where
  keep := fun b u q _ _ _ => k b u q
  slot := fun b u q _ _ _ => ⟨u.slots, k b u q⟩
  free := fun b u q n _ => by rw [upd_ne (Nat.ne_of_lt (Nat.lt_of_lt_of_le (Heap.lt_size q) hp))]; exact n
  there := fun b u q _ => ⟨u, k b u q⟩
  tups := fun b xs q => by rw [upd_ne (ne_of_none q hn)]; exact q
  frzs := fun b u xs q => by rw [upd_ne (ne_of_none q hn)]; exact q
  tbls := fun b ps q => ⟨#[], by rw [upd_ne (ne_of_none q hn), q]; simp⟩
theorem Un.write (mu : Mut (H x)) (he : e = x ∨ H e = some (.own x)) (k : ∀ b u, b ≠ e → h.get? b = some u → h'.get? b = some u) (heo : ∃ u, h'.get? e = some u) : Un fs ex H (upd H x o) h h' := by
  have hx : ∀ b, H b = none → b ≠ x := fun b n z => by subst z; rw [n] at mu; exact mu
  have hb : ∀ b, H b = none → b ≠ e := fun b n z => by
    subst z
    rcases he with r | r
    · exact hx b n r
    · rw [n] at r; cases r
  have hm : ∀ b u, H b = some u → ¬ Mut (some u) → b ≠ x := fun b u q nm z => by subst z; rw [q] at mu; exact nm mu
  refine ⟨fun b u q n _ _ => k b u (hb b n) q, fun b u q n _ _ => ⟨u.slots, k b u (hb b n) q⟩, fun b u q n _ => by rw [upd_ne (hx b n)]; exact n, fun b u q _ => ?_,
    fun b xs q => by rw [upd_ne (hm b _ q fun z => z)]; exact q, fun b u xs q => by rw [upd_ne (hm b _ q fun z => z)]; exact q, fun b ps q => ⟨#[], by rw [upd_ne (hm b _ q fun z => z), q]; simp⟩⟩
  by_cases hbe : b = e
  · subst hbe; exact heo
  · exact ⟨u, k b u hbe q⟩
theorem Un.mono (u : Un fs ex H H1 h h1) (hs : ∀ b ∈ fs, b ∈ fs') (hx : ∀ b ∈ ex, b ∈ ex') : Un fs' ex' H H1 h h1 :=
  ⟨fun b ob q n hb he => u.keep b ob q n (fun z => hb (hs b z)) fun z => he (hx b z), fun _ _ q n _ he => u.any q n fun z => he (hx _ z), fun b ob q n he => u.free b ob q n fun z => he (hx b z), fun b ob q he => u.there b ob q fun z => he (hx b z), u.tups, u.frzs, u.tbls⟩
end

def trk (h : Heap) (H : Hp) : List Addr := (List.range h.objs.size).filter fun a => (H a).isSome
def hidT (h : Heap) (H : Hp) : Heap := PySem.W.hideAll h (trk h H)
theorem hidT_size (h : Heap) (H : Hp) : (hidT h H).objs.size = h.objs.size := PySem.W.hideAll_size _ _
theorem hidT_get {h : Heap} {H : Hp} {b : Addr} {o : Obj} (e : h.get? b = some o) (n : H b = none) : (hidT h H).get? b = some o :=
  PySem.W.hideAll_get _ e fun hm => by
    have q : (H b).isSome = true := (List.mem_filter.mp hm).2
    rw [n] at q; simp at q
theorem of_hidT {h : Heap} {H : Hp} {b : Addr} {o : Obj} (e : (hidT h H).get? b = some o) : h.get? b = some o ∧ H b = none := by
  have e' : h.get? b = some o := PySem.W.of_hideAll (trk h H) e
  refine ⟨e', ?_⟩
  cases q : H b with
  | none => rfl
  | some x =>
    have hm : b ∈ trk h H := List.mem_filter.mpr ⟨List.mem_range.mpr (Heap.lt_size e'), by simp [q]⟩
    have z : (hidT h H).get? b = none := PySem.W.hideAll_none (trk h H) hm
    rw [z] at e; cases e

def allNews (g h : Heap) (L : Addr) : List (Addr × Obj) := (List.range h.objs.size).filterMap fun a => if a = L ∨ (g.get? a).isSome = true then none else (h.get? a).map fun o => (a, o)
def rest (g h : Heap) (L d : Addr) : List (Addr × Obj) := (allNews g h L).filter fun p => decide (p.1 ≠ d)
end L2

namespace L2
open PySem PySem.Spec PyProof.Rows

/-- the module's facts, over the base: the heap at the law's entry without what is tracked there -/
structure Mod (K : PySem.W.Frag) (mg : Str → Option Value) (base : Heap) : Prop where
  kin : K.In base
  glob : base.Ns mainGlobals mg
  blt : ∃ mb, base.Ns builtinsNs mb ∧ ∀ x : Str, x ≠ "__name__" → mb x = bootBuiltins x
  nolimit : base.NoLimit

/-- the context: a def's body (or a comprehension's block) running. base: fixed through the whole law; s₀, H₀: the entry; outer: the frames whose slots others may change (a def's callers); stack: all frames that run;
   ex: iterators that were made ahead of the entry and are walked here (a comprehension's); fn: the names whose cells were made at the entry (a def: all; a comprehension's block: its own); calm: not within an except suite; pn: pins that every state bears; xe: what is wanted of an exception that leaves the code -/
structure Cx where
  prog : Program
  w : World
  K : PySem.W.Frag
  mg : Str → Option Value
  base : Heap
  A : Around
  N : List Str
  s₀ : Shared
  H₀ : Hp
  env : Env
  outer : List Env
  stack : List Env
  ex : List Addr
  fn : Str → Bool
  calm : Bool
  pn : List (Addr × Obj)
  xe : Value → Shared → Prop
/-- the callers' frames -/
def frs (l : List Env) : List Addr := l.filterMap (·.frame)
abbrev Cx.fs (X : Cx) : List Addr := frs X.outer

def Vis (sc : Scope) (x : Str) : Prop := sc.names.lookup x = some .local ∨ sc.names.lookup x = some .cell ∨ sc.names.lookup x = some .free
def Loc (sc : Scope) (x : Str) : Prop := sc.names.lookup x = some .local ∨ sc.names.lookup x = some .cell
def Look (env : Env) (h : Heap) (m : Str → Option Value) (x : Str) (u : Value) : Prop :=
  (env.kindOf x = some .local ∧ m x = some u) ∨ ((env.kindOf x = some .cell ∨ env.kindOf x = some .free) ∧ ∃ c, env.cells.lookup x = some c ∧ h.IsCell c (some u))

structure Cx.Ok (X : Cx) : Prop where
  mod : Mod X.K X.mg X.base
  kind : X.env.scope.kind = .function
  glob : X.env.globals = mainGlobals
  blt : X.env.builtins = builtinsNs
  above : X.s₀.heap.objs.size ≤ X.env.locals
  inj : ∀ x y c, X.env.cells.lookup x = some c → X.env.cells.lookup y = some c → x = y
  has : ∀ x, (X.env.kindOf x = some .cell ∨ X.env.kindOf x = some .free) → ∃ c, X.env.cells.lookup x = some c
  cab : ∀ x c, X.fn x = true → X.env.cells.lookup x = some c → X.s₀.heap.objs.size ≤ c
  hd : X.calm = true → X.A.handled = none
  frames : X.A.frames = some X.stack
  stk : X.stack = X.outer ∨ (X.stack = X.env :: X.outer ∧ X.env.frame = some X.env.locals)
  exf : ∀ b ∈ X.ex, b ≠ X.env.locals ∧ ∀ x c, X.env.cells.lookup x = some c → c ≠ b
  bs : ∀ b o, X.base.get? b = some o → X.s₀.heap.get? b = some o ∧ X.H₀ b = none
  bsz : X.base.objs.size ≤ X.s₀.heap.objs.size
  noex : ∀ b o, X.base.get? b = some o → b ∉ X.ex
  exfs : ∀ b ∈ X.ex, b ∉ X.fs
  funs : X.s₀.heap.FunFrames X.base X.outer
  frf : ∀ b ∈ X.fs, X.H₀ b = none

structure Inv (X : Cx) (pins : List (Addr × Obj)) (σ : List (Option V)) (H : Hp) (s : Shared) : Prop where
  ok : X.Ok
  os : s.os = X.s₀.os
  bare : AllBare s.gens
  base : Un X.fs X.ex X.H₀ H X.s₀.heap s.heap
  loc : ∃ m, s.heap.Ns X.env.locals m ∧ ∀ (i : Nat) (x : Str) (v : V), X.N[i]? = some x → σ[i]? = some (some v) → Vis X.env.scope x → ∃ u, RelV v u ∧ Look X.env s.heap m x u
  cell : ∀ x c, X.env.cells.lookup x = some c → ∃ v, s.heap.IsCell c v
  free : H X.env.locals = none
  freeC : ∀ x c, X.env.cells.lookup x = some c → H c = none
  pin : ∀ p ∈ X.pn ++ pins, s.heap.get? p.1 = some p.2 ∧ H p.1 = none ∧ p.1 ≠ X.env.locals ∧ p.1 ∉ X.fs ∧ ∀ v, p.2.data ≠ .cell v
  hok : HOk X.prog X.w H s.heap
  len : σ.length = X.N.length

section
variable {X : Cx} {pins : List (Addr × Obj)} {σ : List (Option V)} {H H' : Hp} {s : Shared} {h' : Heap}

theorem Cx.Ok.nofr (ok : X.Ok) {b : Addr} {o : Obj} (e : X.base.get? b = some o) : b ∉ X.fs := fun hb => by
  have := (ok.funs.mem hb).1
  rw [e] at this; cases this
theorem Inv.bs (I : Inv X pins σ H s) : ∀ b o, X.base.get? b = some o → s.heap.get? b = some o ∧ H b = none := fun b o e =>
  ⟨I.base.keep b o (I.ok.bs b o e).1 (I.ok.bs b o e).2 (I.ok.nofr e) (I.ok.noex b o e), I.base.free b o (I.ok.bs b o e).1 (I.ok.bs b o e).2 (I.ok.noex b o e)⟩
theorem Inv.bk (I : Inv X pins σ H s) : ∀ b o, X.base.get? b = some o → s.heap.get? b = some o := fun b o e => (I.bs b o e).1
theorem Inv.mod (I : Inv X pins σ H s) : Mod X.K X.mg X.base := I.ok.mod
theorem Inv.kIn (I : Inv X pins σ H s) : X.K.In s.heap := I.ok.mod.kin.keeps I.bk
theorem Inv.nolimit (I : Inv X pins σ H s) : s.heap.NoLimit := I.ok.mod.nolimit.keeps I.bk
/-- the frame over the base: for OpenK's rules (K.In X.base is I.mod.kin) -/
theorem Inv.fr (I : Inv X pins σ H s) : ∃ m, Fr X.base X.env.locals s.heap m :=
  let ⟨m, hn, _⟩ := I.loc
  ⟨m, hn, I.bk, Nat.le_trans I.ok.bsz I.ok.above⟩
theorem Inv.lt (I : Inv X pins σ H s) : X.env.locals < s.heap.objs.size := let ⟨_, hn, _⟩ := I.loc; hn.lt
theorem Inv.sz (I : Inv X pins σ H s) : X.s₀.heap.objs.size ≤ s.heap.objs.size := Nat.le_trans I.ok.above (Nat.le_of_lt I.lt)
theorem Inv.nofs (I : Inv X pins σ H s) {a : Addr} (h : s.heap.objs.size ≤ a) : a ∉ X.fs := fun hb => by
  obtain ⟨_, o, ho, _⟩ := I.ok.funs.mem hb
  exact absurd (Nat.lt_of_lt_of_le (Heap.lt_size ho) (Nat.le_trans I.sz h)) (Nat.lt_irrefl _)
theorem Inv.cne (I : Inv X pins σ H s) : ∀ x c, X.env.cells.lookup x = some c → c ≠ X.env.locals := fun x c e z => by
  obtain ⟨v, o, ho, hd⟩ := I.cell x c e
  obtain ⟨m, ⟨o', es, ep, ho', hd', _⟩, _⟩ := I.loc
  rw [z, ho'] at ho; cases ho; rw [hd'] at hd; cases hd
theorem Inv.funs (I : Inv X pins σ H s) : s.heap.FunFrames X.base X.outer := by
  have all : ∀ (l : List Env), (∀ b ∈ frs l, b ∈ X.fs) → X.s₀.heap.FunFrames X.base l → s.heap.FunFrames X.base l := by
    intro l
    induction l with
    | nil => intro _ _; trivial
    | cons env r ih =>
      intro hs hl
      obtain ⟨hk, ⟨L, o, hf, hn, ho, hd⟩, hr⟩ := hl
      have hL : L ∈ X.fs := hs L (by unfold frs; rw [List.filterMap_cons, hf]; exact List.mem_cons_self)
      obtain ⟨sl, e⟩ := I.base.slot L o ho (I.ok.frf L hL) hL fun z => I.ok.exfs L z hL
      exact ⟨hk, ⟨L, _, hf, hn, e, hd⟩, ih (fun b hb => hs b (by unfold frs; rw [List.filterMap_cons, hf]; exact List.mem_cons_of_mem _ hb)) hr⟩
  exact all X.outer (fun _ hb => hb) I.ok.funs

/-- the frames that run, for a call -/
theorem Inv.stack (I : Inv X pins σ H s) : s.heap.FunFrames X.base X.stack := by
  rcases I.ok.stk with e | ⟨e, hf⟩
  · rw [e]; exact I.funs
  · rw [e]
    obtain ⟨m, hn, _⟩ := I.loc
    refine .cons (by rw [I.ok.kind]; decide) hf hn ?_ I.funs
    exact Heap.get?_none_of_le (Nat.le_trans I.ok.bsz I.ok.above)
theorem Inv.stkSub (I : Inv X pins σ H s) : ∀ b ∈ frs X.stack, b ∈ X.env.locals :: X.fs := fun b hb => by
  rcases I.ok.stk with e | ⟨e, hf⟩
  · rw [e] at hb; exact List.mem_cons_of_mem _ hb
  · rw [e] at hb
    unfold frs at hb
    rw [List.filterMap_cons, hf] at hb
    exact hb
theorem Inv.stkFree (I : Inv X pins σ H s) : ∀ b ∈ frs X.stack, H b = none := fun b hb => by
  rcases List.mem_cons.mp (I.stkSub b hb) with e | hb
  · rw [e]; exact I.free
  · obtain ⟨_, o, ho, _⟩ := I.ok.funs.mem hb
    exact I.base.free b o ho (I.ok.frf b hb) fun z => I.ok.exfs b z hb

/-- THE STEP: the untracked objects but the frame and the records at ch are kept (the callers' frames up to slots), the frame's map is kept, the new abstract heap is held -/
theorem Inv.step {g' : Array GenState} {t' : Nat} {d' : Drawn} {ch : List Addr} (I : Inv X pins σ H s)
    (hch : ∀ b ∈ ch, (b ∈ X.ex ∨ X.s₀.heap.objs.size ≤ b) ∧ b ≠ X.env.locals ∧ (∀ x c, X.env.cells.lookup x = some c → c ≠ b) ∧ ∀ p ∈ X.pn ++ pins, p.1 ≠ b)
    (keep : ∀ b o, b ≠ X.env.locals → b ∉ X.fs → b ∉ ch → s.heap.get? b = some o → H b = none → h'.get? b = some o)
    (slot : ∀ b o, b ≠ X.env.locals → b ∈ X.fs → b ∉ ch → s.heap.get? b = some o → H b = none → ∃ sl, h'.get? b = some { o with slots := sl }) (free : ∀ b o, b ∉ ch → s.heap.get? b = some o → H b = none → H' b = none)
    (there : ∀ b o, b ∉ ch → s.heap.get? b = some o → ∃ o', h'.get? b = some o')
    (tups : ∀ b xs, H b = some (.tup xs) → H' b = some (.tup xs)) (frzs : ∀ b o u, H b = some (.frz o u) → H' b = some (.frz o u)) (tbls : ∀ b ps, H b = some (.tbl ps) → ∃ more, H' b = some (.tbl (ps ++ more)))
    (ns : ∀ m, s.heap.Ns X.env.locals m → h'.Ns X.env.locals m) (hok : HOk X.prog X.w H' h') (hg : AllBare g') :
    Inv X pins σ H' { s with heap := h', gens := g', drawn := d', toks := t' } := by
  have neL : ∀ b o, X.s₀.heap.get? b = some o → b ≠ X.env.locals := fun b o e => Nat.ne_of_lt (Nat.lt_of_lt_of_le (Heap.lt_size e) I.ok.above)
  have neC : ∀ b o, X.s₀.heap.get? b = some o → b ∉ X.ex → b ∉ ch := fun b o e hx hb => by
    rcases (hch b hb).1 with z | z
    · exact hx z
    · exact absurd (Nat.lt_of_lt_of_le (Heap.lt_size e) z) (Nat.lt_irrefl _)
  have cellK : ∀ x c, X.env.cells.lookup x = some c → ∀ v, s.heap.IsCell c v → h'.IsCell c v := fun x c e v ⟨o, ho, hd⟩ => by
    have nch : c ∉ ch := fun z => (hch c z).2.2.1 x c e rfl
    by_cases hc : c ∈ X.fs
    · obtain ⟨sl, q⟩ := slot c o (I.cne x c e) hc nch ho (I.freeC x c e)
      exact ⟨_, q, hd⟩
    · exact ⟨o, keep c o (I.cne x c e) hc nch ho (I.freeC x c e), hd⟩
  refine ⟨I.ok, I.os, hg, ⟨fun b o e n hb hx => ?_, fun b o e n hb hx => ?_, fun b o e n hx => ?_, fun b o e hx => ?_, fun b xs e => tups b xs (I.base.tups b xs e), fun b o xs e => frzs b o xs (I.base.frzs b o xs e), fun b ps e => ?_⟩, ?_, fun x c e => ?_, ?_, fun x c e => ?_, fun p hp => ?_, hok, I.len⟩
  · exact keep b o (neL b o e) hb (neC b o e hx) (I.base.keep b o e n hb hx) (I.base.free b o e n hx)
  · obtain ⟨sl, e1⟩ := I.base.slot b o e n hb hx
    obtain ⟨sl', e2⟩ := slot b _ (neL b o e) hb (neC b o e hx) e1 (I.base.free b o e n hx)
    exact ⟨sl', e2⟩
  · obtain ⟨o', e1⟩ := I.base.there b o e hx
    exact free b o' (neC b o e hx) e1 (I.base.free b o e n hx)
  · obtain ⟨o', e1⟩ := I.base.there b o e hx
    exact there b o' (neC b o e hx) e1
  · obtain ⟨m1, e1⟩ := I.base.tbls b ps e
    obtain ⟨m2, e2⟩ := tbls b _ e1
    exact ⟨m1 ++ m2, by rw [e2, Array.append_assoc]⟩
  · obtain ⟨m, hn, hl⟩ := I.loc
    refine ⟨m, ns m hn, fun i x v e1 e2 e3 => ?_⟩
    obtain ⟨u, r, l⟩ := hl i x v e1 e2 e3
    refine ⟨u, r, ?_⟩
    rcases l with l | ⟨k, c, e, z⟩
    · exact .inl l
    · exact .inr ⟨k, c, e, cellK x c e _ z⟩
  · obtain ⟨v, z⟩ := I.cell x c e
    exact ⟨v, cellK x c e v z⟩
  · obtain ⟨m, ⟨o, _, _, ho, _⟩, _⟩ := I.loc
    exact free _ o (fun z => (hch _ z).2.1 rfl) ho I.free
  · obtain ⟨v, o, ho, hd⟩ := I.cell x c e
    exact free c o (fun z => (hch c z).2.2.1 x c e rfl) ho (I.freeC x c e)
  · obtain ⟨e, n, ne, nf, d⟩ := I.pin p hp
    have nch : p.1 ∉ ch := fun z => (hch p.1 z).2.2.2 p hp rfl
    exact ⟨keep p.1 p.2 ne nf nch e n, free p.1 p.2 nch e n, ne, nf, d⟩
/-- .. where the frame's own object is kept too -/
theorem Inv.un {t' : Nat} (I : Inv X pins σ H s) (u : Un X.fs [] H H' s.heap h') (hok : HOk X.prog X.w H' h') : Inv X pins σ H' { s with heap := h', toks := t' } := by
  obtain ⟨m, ⟨o, es, ep, ho, r⟩, _⟩ := id I.loc
  obtain ⟨sl, hL⟩ := u.any ho I.free (by simp)
  exact I.step (g' := s.gens) (d' := s.drawn) (ch := []) (fun _ z => nomatch z) (fun b o _ hb _ e n => u.keep b o e n hb (by simp)) (fun b o _ hb _ e n => u.slot b o e n hb (by simp)) (fun b o _ e n => u.free b o e n (by simp)) (fun b o _ e => u.there b o e (by simp)) u.tups u.frzs u.tbls (fun m' hm => by
    obtain ⟨o', es', ep', ho', r'⟩ := hm
    rw [ho] at ho'; cases ho'
    exact ⟨_, es', ep', hL, r'⟩) hok I.bare
/-- behind a call (or a comprehension's block): the slots of this frame may have changed too, the records at ch may have turned -/
theorem Inv.call {g' : Array GenState} {t' : Nat} {d' : Drawn} {ch : List Addr} (I : Inv X pins σ H s) (u : Un (frs X.stack) ch H H' s.heap h') (hok : HOk X.prog X.w H' h') (hg : AllBare g')
    (hch : ∀ b ∈ ch, (b ∈ X.ex ∨ X.s₀.heap.objs.size ≤ b) ∧ b ≠ X.env.locals ∧ (∀ x c, X.env.cells.lookup x = some c → c ≠ b) ∧ ∀ p ∈ X.pn ++ pins, p.1 ≠ b) :
    Inv X pins σ H' { s with heap := h', gens := g', drawn := d', toks := t' } := by
  obtain ⟨m, ⟨o, es, ep, ho, r⟩, _⟩ := id I.loc
  obtain ⟨sl, hL⟩ := u.any ho I.free fun z => (hch _ z).2.1 rfl
  exact I.step (ch := ch) hch (fun b o hL hb hc e n => u.keep b o e n (fun z => (List.mem_cons.mp (I.stkSub b z)).elim hL hb) hc) (fun b o _ _ hc e n => u.any e n hc) (fun b o hc e n => u.free b o e n hc) (fun b o hc e => u.there b o e hc) u.tups u.frzs u.tbls (fun m' hm => by
    obtain ⟨o', es', ep', ho', r'⟩ := hm
    rw [ho] at ho'; cases ho'
    exact ⟨_, es', ep', hL, r'⟩) hok hg
/-- an untracked record of ours (an iterator) has turned -/
theorem Inv.turned {t' : Nat} {it : Addr} (I : Inv X pins σ H s) (k : ∀ b o, b ≠ it → s.heap.get? b = some o → h'.get? b = some o) (hn : H it = none) (hL : it ≠ X.env.locals)
    (h1 : it ∈ X.ex ∨ X.s₀.heap.objs.size ≤ it) (h2 : ∀ x c, X.env.cells.lookup x = some c → c ≠ it) (h3 : ∀ p ∈ X.pn ++ pins, p.1 ≠ it) : Inv X pins σ H { s with heap := h', toks := t' } := by
  have nit : ∀ b u, H b = some u → b ≠ it := fun b u e z => by rw [z, hn] at e; cases e
  refine I.step (g' := s.gens) (d' := s.drawn) (ch := [it]) (fun b hb => ?_) (fun b o _ _ hc e _ => k b o (fun z => hc (by simp [z])) e) (fun b o _ _ hc e _ => ⟨o.slots, k b o (fun z => hc (by simp [z])) e⟩) (fun _ _ _ _ n => n)
    (fun b o hc e => ⟨o, k b o (fun z => hc (by simp [z])) e⟩) (fun _ _ e => e) (fun _ _ _ e => e) (fun b ps e => ⟨#[], by rw [e]; simp⟩) (fun m hm => ?_) (fun b u e => ?_) I.bare
  · have e : b = it := by simpa using hb
    subst e
    exact ⟨h1, hL, h2, h3⟩
  · obtain ⟨o, es, ep, ho, r⟩ := hm
    exact ⟨o, es, ep, k _ o (Ne.symm hL) ho, r⟩
  · refine (I.hok b u e).stay (fun c v hc q => k c v ?_ q) (fun _ q => q) fun _ _ q => q
    rcases hc with z | z
    · rw [z]; exact nit b u e
    · exact nit c _ z
theorem Inv.tok (I : Inv X pins σ H s) (t : Nat) : Inv X pins σ H { s with toks := t } := I.un (h' := s.heap) (t' := t) Un.refl I.hok
/-- all objects kept -/
theorem Inv.kept {t' : Nat} (I : Inv X pins σ H s) (k : ∀ b u, s.heap.get? b = some u → h'.get? b = some u) : Inv X pins σ H { s with heap := h', toks := t' } := I.un (Un.kept k) (I.hok.kept k)
/-- a new object laid and tracked -/
theorem Inv.laid {a : Addr} {o : HO} {t' : Nat} (I : Inv X pins σ H s) (k : ∀ b u, s.heap.get? b = some u → h'.get? b = some u) (hp : s.heap.objs.size ≤ a) (new : ObjOk X.prog X.w (upd H a o) h' a o) :
    Inv X pins σ (upd H a o) { s with heap := h', toks := t' } := I.un (Un.laid k hp (I.hok.fresh hp)) (I.hok.laid k hp new)
/-- an object written -/
theorem Inv.write {x e : Addr} {o : HO} {t' : Nat} (I : Inv X pins σ H s) (mu : Mut (H x)) (he : e = x ∨ H e = some (.own x)) (k : ∀ b u, b ≠ e → s.heap.get? b = some u → h'.get? b = some u) (heo : ∃ u, h'.get? e = some u)
    (new : ObjOk X.prog X.w (upd H x o) h' x o) : Inv X pins σ (upd H x o) { s with heap := h', toks := t' } := I.un (Un.write mu he k heo) (I.hok.write mu he k heo new)
theorem Inv.pins_of {pins' : List (Addr × Obj)} (I : Inv X pins σ H s) (h : ∀ p ∈ pins', s.heap.get? p.1 = some p.2 ∧ H p.1 = none ∧ p.1 ≠ X.env.locals ∧ p.1 ∉ X.fs ∧ ∀ v, p.2.data ≠ .cell v) : Inv X pins' σ H s :=
  ⟨I.ok, I.os, I.bare, I.base, I.loc, I.cell, I.free, I.freeC, fun p hp => (List.mem_append.mp hp).elim (fun z => I.pin p (List.mem_append_left _ z)) (h p), I.hok, I.len⟩

theorem nodup_ix {N : List Str} (hN : N.Nodup) {i j : Nat} {x : Str} (a : N[i]? = some x) (b : N[j]? = some x) : i = j := by
  obtain ⟨h1, e1⟩ := List.getElem?_eq_some_iff.mp a
  obtain ⟨h2, e2⟩ := List.getElem?_eq_some_iff.mp b
  exact (List.getElem_inj hN).mp (e1.trans e2.symm)

/-- a name is stored; what changed -/
theorem store_ok2 {M : Model} {A : Around} {E : Value → Shared → Prop} {i : Nat} {x : Str} {v : V} {u : Value} {Q : Unit → Shared → Prop} (I : Inv X pins σ H s) (hN : X.N.Nodup) (hi : X.N[i]? = some x) (hx : Loc X.env.scope x) (r : RelV v u)
    (h : ∀ s', Inv X pins (σ.set i (some v)) H s' → (∃ a, Heap.SameBut a s.heap s'.heap ∧ (a = X.env.locals ∨ X.env.cells.lookup x = some a)) → Q () s') (hf : X.fn x = true ∨ X.env.scope.names.lookup x = some .local := by first | exact .inl rfl | exact .inr rfl | assumption) : wpAny M A (storeName X.env x u) Q E s := by
  obtain ⟨m, hn, hl⟩ := id I.loc
  have hcls : (X.env.scope.kind == .class || (X.env.scope.kind == .module && X.env.locals != X.env.globals)) = false := by rw [I.ok.kind]; rfl
  have hiσ : i < σ.length := by rw [I.len]; exact (List.getElem?_eq_some_iff.mp hi).1
  have cne := I.cne
  have tracked : ∀ {a : Addr} {h' : Heap}, (∃ o, s.heap.get? a = some o ∧ H a = none) → Heap.SameBut a s.heap h' → HOk X.prog X.w H h' := fun {a h'} ha hs b ob e => by
    obtain ⟨_, _, hfree⟩ := ha
    refine (I.hok b ob e).stay (fun c w' hc q => (hs.2 c ?_).trans q) (fun _ q => q) fun _ _ q => q
    rintro rfl
    rcases hc with rfl | hc
    · rw [hfree] at e; cases e
    · rw [hfree] at hc; cases hc
  rcases hx with hk | hk
  · refine wpAny_storeName_local hk hn (fun h' hn' hs => ?_) hcls
    obtain ⟨oL, _, _, hoL, _⟩ := id hn
    refine h _ ⟨I.ok, I.os, I.bare, ⟨fun b o e n hb hx => ?_, fun b o e n hb hx => ?_, I.base.free, fun b o e hx => ?_, I.base.tups, I.base.frzs, I.base.tbls⟩, ⟨_, hn', fun j y v' e1 e2 e3 => ?_⟩, fun y c e => ?_, I.free, I.freeC, fun p hp => ?_, tracked ⟨oL, hoL, I.free⟩ hs, by simpa using I.len⟩ ⟨_, hs, .inl rfl⟩
    · exact (hs.2 b (Nat.ne_of_lt (Nat.lt_of_lt_of_le (Heap.lt_size e) I.ok.above))).trans (I.base.keep b o e n hb hx)
    · obtain ⟨sl, e1⟩ := I.base.slot b o e n hb hx
      exact ⟨sl, (hs.2 b (Nat.ne_of_lt (Nat.lt_of_lt_of_le (Heap.lt_size e) I.ok.above))).trans e1⟩
    · obtain ⟨o', e1⟩ := I.base.there b o e hx
      exact ⟨o', (hs.2 b (Nat.ne_of_lt (Nat.lt_of_lt_of_le (Heap.lt_size e) I.ok.above))).trans e1⟩
    · by_cases hj : j = i
      · subst hj
        rw [hi] at e1; cases e1
        rw [List.getElem?_set_self hiσ] at e2
        cases e2
        exact ⟨u, r, .inl ⟨hk, by simp⟩⟩
      · rw [List.getElem?_set_ne (Ne.symm hj)] at e2
        obtain ⟨u', r', q⟩ := hl j y v' e1 e2 e3
        refine ⟨u', r', ?_⟩
        rcases q with ⟨k, e⟩ | ⟨k, c, e, z⟩
        · refine .inl ⟨k, ?_⟩
          have : y ≠ x := fun e => hj (nodup_ix hN e1 (e ▸ hi))
          simp [this, e]
        · exact .inr ⟨k, c, e, z.sameBut hs (cne y c e)⟩
    · obtain ⟨w', z⟩ := I.cell y c e
      exact ⟨w', z.sameBut hs (cne y c e)⟩
    · obtain ⟨e, n, ne, nf, d⟩ := I.pin p hp
      exact ⟨(hs.2 p.1 ne).trans e, n, ne, nf, d⟩
  · have hfn : X.fn x = true := by
      rcases hf with z | z
      · exact z
      · rw [z] at hk; cases hk
    obtain ⟨c, hc⟩ := I.ok.has x (.inl hk)
    obtain ⟨w', z⟩ := I.cell x c hc
    refine wpAny_storeName_cell I.ok.kind hk hc z (fun h' hc' hs => ?_)
    obtain ⟨oc, hoc, hocd⟩ := id z
    refine h { s with heap := h' } ⟨I.ok, I.os, I.bare, ⟨fun b o e n hb hx => ?_, fun b o e n hb hx => ?_, I.base.free, fun b o e hx => ?_, I.base.tups, I.base.frzs, I.base.tbls⟩, ⟨m, hn.sameBut hs (Ne.symm (cne x c hc)), fun j y v' e1 e2 e3 => ?_⟩, fun y c' e => ?_, I.free, I.freeC, fun p hp => ?_, tracked ⟨oc, hoc, I.freeC x c hc⟩ hs, by simpa using I.len⟩ ⟨c, hs, .inr hc⟩
    · exact (hs.2 b (Nat.ne_of_lt (Nat.lt_of_lt_of_le (Heap.lt_size e) (I.ok.cab x c hfn hc)))).trans (I.base.keep b o e n hb hx)
    · obtain ⟨sl, e1⟩ := I.base.slot b o e n hb hx
      exact ⟨sl, (hs.2 b (Nat.ne_of_lt (Nat.lt_of_lt_of_le (Heap.lt_size e) (I.ok.cab x c hfn hc)))).trans e1⟩
    · obtain ⟨o', e1⟩ := I.base.there b o e hx
      exact ⟨o', (hs.2 b (Nat.ne_of_lt (Nat.lt_of_lt_of_le (Heap.lt_size e) (I.ok.cab x c hfn hc)))).trans e1⟩
    · by_cases hj : j = i
      · subst hj
        rw [hi] at e1; cases e1
        rw [List.getElem?_set_self hiσ] at e2
        cases e2
        exact ⟨u, r, .inr ⟨.inl hk, c, hc, hc'⟩⟩
      · rw [List.getElem?_set_ne (Ne.symm hj)] at e2
        obtain ⟨u', r', q⟩ := hl j y v' e1 e2 e3
        refine ⟨u', r', ?_⟩
        rcases q with q | ⟨k, c', e, z'⟩
        · exact .inl q
        · refine .inr ⟨k, c', e, z'.sameBut hs ?_⟩
          rintro rfl
          exact hj (nodup_ix hN e1 (I.ok.inj _ _ _ e hc ▸ hi))
    · by_cases hcc : c' = c
      · subst hcc; exact ⟨_, hc'⟩
      · obtain ⟨w2, z2⟩ := I.cell y c' e
        exact ⟨w2, z2.sameBut hs hcc⟩
    · obtain ⟨e, n, ne, nf, d⟩ := I.pin p hp
      refine ⟨(hs.2 p.1 ?_).trans e, n, ne, nf, d⟩
      intro q
      rw [q, hoc] at e
      have q' : oc = p.2 := Option.some.inj e
      exact d w' (by rw [← q']; exact hocd)
theorem store_ok {M : Model} {A : Around} {E : Value → Shared → Prop} {i : Nat} {x : Str} {v : V} {u : Value} {Q : Unit → Shared → Prop} (I : Inv X pins σ H s) (hN : X.N.Nodup) (hi : X.N[i]? = some x) (hx : Loc X.env.scope x) (r : RelV v u)
    (h : ∀ s', Inv X pins (σ.set i (some v)) H s' → Q () s') (hf : X.fn x = true ∨ X.env.scope.names.lookup x = some .local := by first | exact .inl rfl | exact .inr rfl | assumption) : wpAny M A (storeName X.env x u) Q E s :=
  store_ok2 I hN hi hx r (fun s' I' _ => h s' I') hf
/-- behind a call or a block, the state as it is -/
theorem Inv.call' {s' : Shared} {ch : List Addr} (I : Inv X pins σ H s) (ho : s'.os = s.os) (u : Un (frs X.stack) ch H H' s.heap s'.heap) (hok : HOk X.prog X.w H' s'.heap) (hg : AllBare s'.gens)
    (hch : ∀ b ∈ ch, (b ∈ X.ex ∨ X.s₀.heap.objs.size ≤ b) ∧ b ≠ X.env.locals ∧ (∀ x c, X.env.cells.lookup x = some c → c ≠ b) ∧ ∀ p ∈ X.pn ++ pins, p.1 ≠ b) : Inv X pins σ H' s' := by
  obtain ⟨h', g', d', t', o'⟩ := s'
  have e : o' = s.os := ho
  subst e
  exact I.call (g' := g') (t' := t') (d' := d') u hok hg hch
end

/-- an exception: its class, its own dict's address (where it has one), the abstract heap behind it -/
abbrev XK := Value → Option Addr → Hp → Prop
abbrev St := List (Option V)
abbrev VK := V → Hp → Prop
/-- an expression's reading; a test's; an argument list's -/
abbrev TE := St → Hp → VK → Prop
abbrev TT := St → Hp → (Bool → Hp → Prop) → Prop
abbrev TA := St → Hp → (List V → Hp → Prop) → Prop
/-- what is wanted behind a statement -/
structure Ends where
  nx : St → Hp → Prop
  rt : VK
  bk : St → Hp → Prop := fun _ _ => False
  ct : St → Hp → Prop := fun _ _ => False
abbrev TS := Ends → St → Hp → Prop

def EP (X : Cx) (pins : List (Addr × Obj)) (σ : St) (Q : VK) (u : Value) (s' : Shared) : Prop := ∃ v H', Inv X pins σ H' s' ∧ RelV v u ∧ Q v H'
def TP (X : Cx) (pins : List (Addr × Obj)) (σ : St) (Q : Bool → Hp → Prop) (b : Bool) (s' : Shared) : Prop := ∃ H', Inv X pins σ H' s' ∧ Q b H'
def AP (X : Cx) (pins : List (Addr × Obj)) (σ : St) (Q : List V → Hp → Prop) (us : List Value) (s' : Shared) : Prop := ∃ vs H', Inv X pins σ H' s' ∧ Vals vs us ∧ Q vs H'
def SP (X : Cx) (pins : List (Addr × Obj)) (D : Ends) (f : Flow) (s' : Shared) : Prop :=
  match f with
  | .next => ∃ σ' H', Inv X pins σ' H' s' ∧ D.nx σ' H'
  | .brk => ∃ σ' H', Inv X pins σ' H' s' ∧ D.bk σ' H'
  | .cont => ∃ σ' H', Inv X pins σ' H' s' ∧ D.ct σ' H'
  | .ret u => ∃ v σ' H', Inv X pins σ' H' s' ∧ RelV v u ∧ D.rt v H'

def PE (X : Cx) (e : Expr) (t : TE) : Prop :=
  ∀ (pins : List (Addr × Obj)) (s : Shared) (σ : St) (H : Hp) (Q : VK), Inv X pins σ H s → t σ H Q → wpAny (model X.prog X.w) X.A (eval e X.env) (EP X pins σ Q) X.xe s
def PT (X : Cx) (e : Expr) (t : TT) : Prop :=
  ∀ (pins : List (Addr × Obj)) (s : Shared) (σ : St) (H : Hp) (Q : Bool → Hp → Prop), Inv X pins σ H s → t σ H Q → wpAny (model X.prog X.w) X.A (isTrue e X.env (eval e X.env)) (TP X pins σ Q) X.xe s
/-- a test whatever its 'whole' is (and, or) -/
def PW (X : Cx) (e : Expr) (t : TT) : Prop :=
  ∀ (whole : Sem Value) (pins : List (Addr × Obj)) (s : Shared) (σ : St) (H : Hp) (Q : Bool → Hp → Prop), Inv X pins σ H s → t σ H Q → wpAny (model X.prog X.w) X.A (isTrue e X.env whole) (TP X pins σ Q) X.xe s
theorem PW.pt {X : Cx} {e : Expr} {t : TT} (h : PW X e t) : PT X e t := h _
/-- an argument list (no star), from the left -/
def PA (X : Cx) (es : List Expr) (t : TA) : Prop :=
  ∀ (pos : Pos) (pins : List (Addr × Obj)) (s : Shared) (σ : St) (H : Hp) (Q : List V → Hp → Prop), Inv X pins σ H s → t σ H Q → wpAny (model X.prog X.w) X.A (spliced (backTo pos (starEach es X.env))) (AP X pins σ Q) X.xe s
def PS (X : Cx) (st : Stmt) (t : TS) : Prop :=
  ∀ (pins : List (Addr × Obj)) (s : Shared) (σ : St) (H : Hp) (D : Ends), Inv X pins σ H s → t D σ H → wpAny (model X.prog X.w) X.A (exec st X.env) (SP X pins D) X.xe s
def PSs (X : Cx) (st : List Stmt) (t : TS) : Prop :=
  ∀ (pins : List (Addr × Obj)) (s : Shared) (σ : St) (H : Hp) (D : Ends), Inv X pins σ H s → t D σ H → wpAny (model X.prog X.w) X.A (execs st X.env) (SP X pins D) X.xe s
/-- weaken the end -/
theorem thn {α : Type} {t : Sem α} {Q Q' : α → Shared → Prop} {M : Model} {A : Around} {E : Value → Shared → Prop} {s : Shared} (h : wpAny M A t Q E s) (hQ : ∀ a s, Q a s → Q' a s) : wpAny M A t Q' E s := wpAny_mono h hQ fun _ _ x => x
end L2

namespace L2
open PySem PySem.Spec PyProof.Rows
section
variable {X : Cx}

/-- two expressions in a row -/
theorem bin {a b : Expr} {ta tb : TE} (ha : PE X a ta) (hb : PE X b tb) {pins : List (Addr × Obj)} {s : Shared} {σ : St} {H : Hp} {R : V → V → Hp → Prop} (I : Inv X pins σ H s) (h : ta σ H fun x H1 => tb σ H1 fun y H2 => R x y H2)
    {α : Type} {Q : α → Shared → Prop} {f : Value → Value → Sem α}
    (hf : ∀ v u s2 x y H2, Inv X pins σ H2 s2 → RelV x v → RelV y u → R x y H2 → wpAny (model X.prog X.w) X.A (f v u) Q X.xe s2) :
    wpAny (model X.prog X.w) X.A (eval a X.env) (fun v s₁ => wpAny (model X.prog X.w) X.A (eval b X.env) (fun u s₂ => wpAny (model X.prog X.w) X.A (f v u) Q X.xe s₂) X.xe s₁) X.xe s := by
  refine thn (ha pins s σ H _ I h) fun v s1 ⟨x, H1, I1, r1, q1⟩ => ?_
  refine thn (hb pins s1 σ H1 _ I1 q1) fun u s2 ⟨y, H2, I2, r2, q2⟩ => ?_
  exact hf v u s2 x y H2 I2 r1 r2 q2

def tVar (i : Nat) : TE := fun σ H Q => ∃ v, σ[i]? = some (some v) ∧ Q v H
def tC (v : V) : TE := fun _ H Q => Q v H
theorem pe_var {i : Nat} {x : Str} {pos : Pos} (hN : X.N[i]? = some x) (hv : Vis X.env.scope x) (hd : (x == ("__debug__" : Str)) = false := by decide) (hcd : (x == ("__classdict__" : Str)) = false := by decide) : PE X (.Name x pos) (tVar i) := by
  intro pins s σ H Q I h
  obtain ⟨v, e, h⟩ := h
  obtain ⟨m, hn, hl⟩ := I.loc
  obtain ⟨u, r, l⟩ := hl i x v hN e hv
  have fin : EP X pins σ Q u s := ⟨v, H, I, r, h⟩
  rcases l with ⟨hk, hm⟩ | ⟨hk, c, hc, hcell⟩
  · exact wpAny_Name (wpAny_loadName_local I.ok.kind hk hn hm fin) hd
  · rcases hk with hk | hk
    · exact wpAny_Name (wpAny_loadName_cell I.ok.kind hk hc hcell fin) hd
    · exact wpAny_Name (wpAny_loadName_free I.ok.kind hk hc hcell fin hcd) hd
theorem pe_int {i j pos} : PE X (.Constant (.int i) j pos) (tC (.int i)) := fun _ _ _ H _ I h => wpAny_Constant_int ⟨.int i, H, I.tok _, ⟨_, rfl⟩, h⟩
theorem pe_bl {b j pos} : PE X (.Constant (.bool b) j pos) (tC (.bl b)) := fun _ _ _ H _ I h => Constant_bool ⟨.bl b, H, I, rfl, h⟩
theorem pe_non {j pos} : PE X (.Constant .none j pos) (tC .non) := fun _ _ _ H _ I h => Constant_none ⟨.non, H, I, rfl, h⟩
theorem pe_str {x j pos} : PE X (.Constant (.str x) j pos) (tC (.str x)) := fun _ _ _ H _ I h => Calls.Constant_str ⟨.str x, H, I.tok _, ⟨_, rfl⟩, h⟩

/-- a global name of the def -/
def Gl (X : Cx) (x : Str) : Prop := X.env.kindOf x = some .globalImplicit
theorem ld_glob {E : Value → Shared → Prop} {pins : List (Addr × Obj)} {s : Shared} {σ : St} {H : Hp} {x : Str} {u : Value} {pos : Pos} {Q : Value → Shared → Prop} (I : Inv X pins σ H s) (hg : Gl X x) (hm : X.mg x = some u) (h : Q u s)
    (hd : (x == ("__debug__" : Str)) = false := by decide) : wpAny (model X.prog X.w) X.A (eval (.Name x pos) X.env) Q E s :=
  Calls.Name_function_global I.ok.kind hg (Calls.loadGlobal_global (by rw [I.ok.glob]; exact I.mod.glob.keeps I.bk) hm h) hd
theorem ld_blt {E : Value → Shared → Prop} {pins : List (Addr × Obj)} {s : Shared} {σ : St} {H : Hp} {x : Str} {u : Value} {pos : Pos} {Q : Value → Shared → Prop} (I : Inv X pins σ H s) (hg : Gl X x) (hm : X.mg x = none) (hv : bootBuiltins x = some u) (h : Q u s)
    (hn : x ≠ "__name__" := by decide) (hd : (x == ("__debug__" : Str)) = false := by decide) : wpAny (model X.prog X.w) X.A (eval (.Name x pos) X.env) Q E s := by
  obtain ⟨mb, h1, h2⟩ := I.mod.blt
  exact Calls.Name_function_global I.ok.kind hg (Calls.loadGlobal_builtin (by rw [I.ok.glob]; exact I.mod.glob.keeps I.bk) hm (by rw [I.ok.blt]; exact h1.keeps I.bk) ((h2 x hn).trans hv) h) hd
/-- a module's constant, a class, a function, as a value -/
theorem pe_glob {x : Str} {v : V} {u : Value} {pos : Pos} (hg : Gl X x) (hm : X.mg x = some u) (r : RelV v u) (hd : (x == ("__debug__" : Str)) = false := by decide) : PE X (.Name x pos) (tC v) :=
  fun _ _ _ H _ I h => ld_glob I hg hm ⟨v, H, I, r, h⟩ hd
theorem pe_bltn {x : Str} {v : V} {u : Value} {pos : Pos} (hg : Gl X x) (hm : X.mg x = none) (hv : bootBuiltins x = some u) (r : RelV v u) (hn : x ≠ "__name__" := by decide) (hd : (x == ("__debug__" : Str)) = false := by decide) : PE X (.Name x pos) (tC v) :=
  fun _ _ _ H _ I h => ld_blt I hg hm hv ⟨v, H, I, r, h⟩ hn hd

/-- two ints -/
def t2I (ta tb : TE) (k : Int → Int → Hp → Prop) : St → Hp → Prop := fun σ H => ta σ H fun x H1 => tb σ H1 fun y H2 => ∃ i j, x = .int i ∧ y = .int j ∧ k i j H2
variable {a b : Expr} {ta tb : TE} {pos : Pos}
def PC (X : Cx) (op : CmpOp) (a b : Expr) (t : TE) : Prop :=
  ∀ (pins : List (Addr × Obj)) (s : Shared) (σ : St) (H : Hp) (Q : VK), Inv X pins σ H s → t σ H Q →
    wpAny (model X.prog X.w) X.A (eval a X.env) (fun v s₁ => wpAny (model X.prog X.w) X.A (eval b X.env) (fun u s₂ => wpAny (model X.prog X.w) X.A (compareOp op v u) (EP X pins σ Q) X.xe s₂) X.xe s₁) X.xe s
theorem nobehind (b : Expr) {op : CmpOp} (h : op ≠ .In) (h2 : op ≠ .NotIn) : behindInMarks op b = false := by
  have e1 : (op == CmpOp.In) = false := by cases op <;> first | rfl | exact absurd rfl h
  have e2 : (op == CmpOp.NotIn) = false := by cases op <;> first | rfl | exact absurd rfl h2
  cases b <;> simp [behindInMarks, e1, e2]
def tCmp (p : Int → Int → Bool) (ta tb : TE) : TE := fun σ H Q => t2I ta tb (fun i j H2 => Q (.bl (p i j)) H2) σ H
abbrev tLt : TE → TE → TE := tCmp fun i j => decide (i < j)
abbrev tLe : TE → TE → TE := tCmp fun i j => decide (i ≤ j)
abbrev tGt : TE → TE → TE := tCmp fun i j => decide (j < i)
abbrev tGe : TE → TE → TE := tCmp fun i j => decide (j ≤ i)
abbrev tEqI : TE → TE → TE := tCmp fun i j => decide (i = j)
abbrev tNeI : TE → TE → TE := tCmp fun i j => !decide (i = j)
/-- a comparison as a value, as a test -/
def tB (t : TE) : TT := fun σ H Q => t σ H fun x H1 => ∃ c, x = .bl c ∧ Q c H1
theorem pt_cmp {op : CmpOp} {t : TE} (h : PC X op a b t) (h1 : behindInMarks op b = false := by first | exact nobehind _ (by decide) (by decide) | rfl) : PT X (.Compare a [op] [b] pos) (tB t) := by
  intro pins s σ H Q I hw
  refine wpAny_isTrue_Compare1 (thn (h pins s σ H _ I hw) fun v s1 h1 => thn h1 fun u s2 h2 => thn h2 fun c s3 ⟨x, H1, I1, r1, q1⟩ => ?_) h1
  obtain ⟨d, rfl, q⟩ := q1
  cases r1
  exact wpAny_truthy_bool ⟨H1, I1, q⟩
/-- an expression whose value is a bool, as a test -/
theorem pt_val {e : Expr} {t : TE} (h : PE X e t) (he : ∀ whole, isTrue e X.env whole = (do let v ← whole; standAt e.pos; holding [v] (truthy v)) := by intro _; rfl) : PT X e (tB t) := by
  intro pins s σ H Q I hw
  refine isTrue_plain (thn (h pins s σ H _ I hw) fun v s1 ⟨x, H1, I1, r1, q1⟩ => ?_) (he _)
  obtain ⟨d, rfl, q⟩ := q1
  cases r1
  exact wpAny_truthy_bool ⟨H1, I1, q⟩

variable {tA tB' : TT} {rest : List Expr}
def tAnd (t u : TT) : TT := fun σ H Q => t σ H fun c H1 => if c = true then u σ H1 Q else Q false H1
def tOr (t u : TT) : TT := fun σ H Q => t σ H fun c H1 => if c = true then Q true H1 else u σ H1 Q
def tNot (t : TT) : TT := fun σ H Q => t σ H fun c H1 => Q (!c) H1
theorem pw_and1 (ha : PT X a tA) : PW X (.BoolOp .And [a] pos) tA := by
  intro wh pins s σ H Q I h
  refine isTrue_and (thn (ha pins s σ H Q I h) fun c s1 e => ?_)
  cases c with
  | true => exact isTrue_and_nil e
  | false => exact e
theorem pw_or1 (ha : PT X a tA) : PW X (.BoolOp .Or [a] pos) tA := by
  intro wh pins s σ H Q I h
  refine isTrue_or (thn (ha pins s σ H Q I h) fun c s1 e => ?_)
  cases c with
  | false => exact isTrue_or_nil e
  | true => exact e
theorem pw_and (ha : PT X a tA) (hb : PW X (.BoolOp .And (b :: rest) pos) tB') : PW X (.BoolOp .And (a :: b :: rest) pos) (tAnd tA tB') := by
  intro wh pins s σ H Q I h
  refine isTrue_and (thn (ha pins s σ H _ I h) fun c s1 ⟨H1, I1, q1⟩ => ?_)
  cases c with
  | true => exact hb wh pins s1 σ H1 Q I1 q1
  | false => exact ⟨H1, I1, q1⟩
theorem pw_or (ha : PT X a tA) (hb : PW X (.BoolOp .Or (b :: rest) pos) tB') : PW X (.BoolOp .Or (a :: b :: rest) pos) (tOr tA tB') := by
  intro wh pins s σ H Q I h
  refine isTrue_or (thn (ha pins s σ H _ I h) fun c s1 ⟨H1, I1, q1⟩ => ?_)
  cases c with
  | true => exact ⟨H1, I1, q1⟩
  | false => exact hb wh pins s1 σ H1 Q I1 q1
theorem pt_not (ha : PT X a tA) : PT X (.UnaryOp .Not a pos) (tNot tA) := by
  intro pins s σ H Q I h
  exact isTrue_not (ha pins s σ H (fun c H1 => Q (!c) H1) I h)
/-- .. as values (bools) -/
def tAndV (ta tb : TE) : TE := fun σ H Q => ta σ H fun x H1 => ∃ c, x = .bl c ∧ if c = true then tb σ H1 Q else Q (.bl false) H1
def tNotV (ta : TE) : TE := fun σ H Q => ta σ H fun x H1 => ∃ c, x = .bl c ∧ Q (.bl (!c)) H1
theorem pe_one {op} {t : TE} (h : PE X a t) : PE X (.BoolOp op [a] pos) t := fun pins s σ H Q I hw => BoolOp_one (h pins s σ H Q I hw)
theorem pe_and (ha : PE X a ta) (hb : PE X (.BoolOp .And (b :: rest) pos) tb) : PE X (.BoolOp .And (a :: b :: rest) pos) (tAndV ta tb) := by
  intro pins s σ H Q I h
  refine BoolOp_and (thn (ha pins s σ H _ I h) fun v s1 ⟨x, H1, I1, r1, q1⟩ => ?_)
  obtain ⟨c, rfl, q1⟩ := q1
  cases r1
  refine wpAny_truthy_bool ?_
  cases c with
  | true => exact hb pins s1 σ H1 Q I1 q1
  | false => exact ⟨.bl false, H1, I1, rfl, q1⟩
theorem pe_not (ha : PE X a ta) : PE X (.UnaryOp .Not a pos) (tNotV ta) := by
  intro pins s σ H Q I h
  refine UnaryOp_ (thn (ha pins s σ H _ I h) fun v s1 ⟨x, H1, I1, r1, q1⟩ => ?_)
  obtain ⟨c, rfl, q1⟩ := q1
  cases r1
  exact not_of (wpAny_truthy_bool ⟨.bl (!c), H1, I1, rfl, q1⟩)
/-- a if t else b -/
def tIf (t : TT) (ta tb : TE) : TE := fun σ H Q => t σ H fun c H1 => if c = true then ta σ H1 Q else tb σ H1 Q
theorem pe_ifExp {c : Expr} (hc : PT X c tA) (ha : PE X a ta) (hb : PE X b tb) : PE X (.IfExp c a b pos) (tIf tA ta tb) := by
  intro pins s σ H Q I h
  refine wpAny_IfExp (thn (hc pins s σ H _ I h) fun d s1 ⟨H1, I1, q1⟩ => ?_)
  cases d with
  | true => exact ha pins s1 σ H1 Q I1 q1
  | false => exact hb pins s1 σ H1 Q I1 q1
end
end L2

namespace L2
open PySem PySem.Spec PyProof.Rows

def SqL (K : PySem.W.Frag) (H : Hp) (a : Addr) (xs : List V) : Prop :=
  Rd H a (.lst xs) ∨
    ∃ (o : Obj) (its : Array Value) (n : Nat), K.lookup a = some o ∧ o.cls = .type "list" ∧ o.dict = none ∧ o.data = .seq its n ∧ its.size ≤ sizeLine ∧ Vals xs its.toList
def SqT (K : PySem.W.Frag) (H : Hp) (a : Addr) (xs : List V) : Prop :=
  Rd H a (.tup xs) ∨
    ∃ (o : Obj) (its : Array Value) (n : Nat), K.lookup a = some o ∧ o.cls = .type "tuple" ∧ o.data = .seq its n ∧ its.size ≤ sizeLine ∧ Vals xs its.toList
def absV : Value → Option V
  | .none => some .non
  | .bool b => some (.bl b)
  | .int i _ => some (.int i)
  | .str x _ => some (.str x)
  | .bytes b _ => some (.byt b)
  | .float b _ => some (.flt b)
  | .ref a => some (.ref a)
  | .type n => some (.ty n)
  | _ => none
theorem RelV.abs {x : V} {u : Value} (r : RelV x u) : absV u = some x := by
  cases x with
  | non => cases r; rfl
  | bl _ => cases r; rfl
  | int _ => obtain ⟨t, rfl⟩ := r; rfl
  | str _ => obtain ⟨t, rfl⟩ := r; rfl
  | byt _ => obtain ⟨t, rfl⟩ := r; rfl
  | flt _ => obtain ⟨t, rfl⟩ := r; rfl
  | ref _ => cases r; rfl
  | ty _ => cases r; rfl
theorem RelV.inj {x y : V} {u : Value} (r : RelV x u) (q : RelV y u) : x = y := Option.some.inj (r.abs.symm.trans q.abs)
theorem Vals.inj : ∀ {xs ys : List V} {us : List Value}, Vals xs us → Vals ys us → xs = ys
  | _, _, _, .nil, .nil => rfl
  | _, _, _, .cons r t, .cons r' t' => by rw [r.inj r', Vals.inj t t']
section
variable {X : Cx} {pins : List (Addr × Obj)} {σ : St} {H : Hp} {s : Shared} {a : Addr} {xs ys : List V}
theorem SqL.of {K : PySem.W.Frag} (h : H a = some (.lst xs)) : SqL K H a xs := .inl (.inl h)
theorem SqT.of {K : PySem.W.Frag} (h : H a = some (.tup xs)) : SqT K H a xs := .inl (.inl h)
theorem Inv.list (I : Inv X pins σ H s) (h : SqL X.K H a xs) : ∃ its : List Value, Vals xs its ∧ PlainL s.heap a its.toArray ∧ xs.length ≤ sizeLine := by
  rcases h with h | ⟨o, its, n, hk, hc, hd, hs, hz, r⟩
  · obtain ⟨z, its, n, r, e⟩ := h.ok I.hok
    exact ⟨its, r, ⟨_, n, e, rfl, rfl, rfl⟩, z⟩
  · refine ⟨its.toList, r, ⟨o, n, I.kIn a o hk, hc, hd, by simpa using hs⟩, ?_⟩
    have e := r.length
    simp only [Array.length_toList] at e
    omega
theorem Inv.tuple (I : Inv X pins σ H s) (h : SqT X.K H a xs) : ∃ its : List Value, Vals xs its ∧ IsTup s.heap a its.toArray ∧ xs.length ≤ sizeLine := by
  rcases h with h | ⟨o, its, n, hk, hc, hs, hz, r⟩
  · obtain ⟨z, its, r, p⟩ := h.ok I.hok
    exact ⟨its, r, p, z⟩
  · refine ⟨its.toList, r, ⟨o, I.kIn a o hk, hc, n, by simpa using hs⟩, ?_⟩
    have e := r.length
    simp only [Array.length_toList] at e
    omega
theorem Inv.list_inj (I : Inv X pins σ H s) (h : SqL X.K H a xs) (h' : SqL X.K H a ys) : xs = ys := by
  obtain ⟨its, r, ⟨o, n, e, _, _, d⟩, _⟩ := I.list h
  obtain ⟨its', r', ⟨o', n', e', _, _, d'⟩, _⟩ := I.list h'
  rw [e] at e'; cases e'
  rw [d] at d'
  injection d' with d1 _
  have : its = its' := by simpa using congrArg Array.toList d1
  subst this
  exact r.inj r'
theorem Inv.tuple_inj (I : Inv X pins σ H s) (h : SqT X.K H a xs) (h' : SqT X.K H a ys) : xs = ys := by
  obtain ⟨its, r, ⟨o, e, _, n, d⟩, _⟩ := I.tuple h
  obtain ⟨its', r', ⟨o', e', _, n', d'⟩, _⟩ := I.tuple h'
  rw [e] at e'; cases e'
  rw [d] at d'
  injection d' with d1 _
  have : its = its' := by simpa using congrArg Array.toList d1
  subst this
  exact r.inj r'
end

abbrev Cx.wish (X : Cx) (E : Value → Shared → Prop) : Cx := { X with xe := E }
/-- no exception leaves -/
abbrev Cx.nox (X : Cx) : Cx := X.wish fun _ _ => False
theorem Cx.Ok.wish {X : Cx} (ok : X.Ok) (E : Value → Shared → Prop) : (X.wish E).Ok :=
  ⟨ok.mod, ok.kind, ok.glob, ok.blt, ok.above, ok.inj, ok.has, ok.cab, ok.hd, ok.frames, ok.stk, ok.exf, ok.bs, ok.bsz, ok.noex, ok.exfs, ok.funs, ok.frf⟩
theorem Cx.Ok.unwish {X : Cx} {E : Value → Shared → Prop} (ok : (X.wish E).Ok) : X.Ok :=
  ⟨ok.mod, ok.kind, ok.glob, ok.blt, ok.above, ok.inj, ok.has, ok.cab, ok.hd, ok.frames, ok.stk, ok.exf, ok.bs, ok.bsz, ok.noex, ok.exfs, ok.funs, ok.frf⟩
section
variable {X : Cx} {pins : List (Addr × Obj)} {σ : St} {H : Hp} {s : Shared} {E : Value → Shared → Prop}
theorem Inv.wish (I : Inv X pins σ H s) (E : Value → Shared → Prop) : Inv (X.wish E) pins σ H s := ⟨I.ok.wish E, I.os, I.bare, I.base, I.loc, I.cell, I.free, I.freeC, I.pin, I.hok, I.len⟩
theorem Inv.unwish (I : Inv (X.wish E) pins σ H s) : Inv X pins σ H s := ⟨I.ok.unwish, I.os, I.bare, I.base, I.loc, I.cell, I.free, I.freeC, I.pin, I.hok, I.len⟩
theorem SP.unwish {D : Ends} {f : Flow} {s' : Shared} (h : SP (X.wish E) pins D f s') : SP X pins D f s' := by
  cases f with
  | next => obtain ⟨σ', H', I, q⟩ := h; exact ⟨σ', H', I.unwish, q⟩
  | brk => obtain ⟨σ', H', I, q⟩ := h; exact ⟨σ', H', I.unwish, q⟩
  | cont => obtain ⟨σ', H', I, q⟩ := h; exact ⟨σ', H', I.unwish, q⟩
  | ret u => obtain ⟨v, σ', H', I, r, q⟩ := h; exact ⟨v, σ', H', I.unwish, r, q⟩
theorem PE.nox {e : Expr} {t : TE} (h : PE X.nox e t) : PE X e t := fun pins s σ H Q I hw =>
  wpAny_mono (h pins s σ H Q (I.wish _) hw) (fun _ _ ⟨v, H', I', r, q⟩ => ⟨v, H', I'.unwish, r, q⟩) fun _ _ z => False.elim z
theorem PT.nox {e : Expr} {t : TT} (h : PT X.nox e t) : PT X e t := fun pins s σ H Q I hw =>
  wpAny_mono (h pins s σ H Q (I.wish _) hw) (fun _ _ ⟨H', I', q⟩ => ⟨H', I'.unwish, q⟩) fun _ _ z => False.elim z
theorem PSs.nox {st : List Stmt} {t : TS} (h : PSs X.nox st t) : PSs X st t := fun pins s σ H D I hw =>
  wpAny_mono (h pins s σ H D (I.wish _) hw) (fun _ _ q => q.unwish) fun _ _ z => False.elim z
end

section
variable {X : Cx} {st : Stmt} {rest : List Stmt} {t u : TS} {e : Expr} {te : TE} {pos : Pos}
def tNext : TS := fun D σ H => D.nx σ H
def tSeq (t u : TS) : TS := fun D σ H => t { D with nx := u D } σ H
theorem pss_nil : PSs X [] tNext := fun _ _ σ H _ I h => wpAny_execs_nil ⟨σ, H, I, h⟩
theorem pss_cons (h1 : PS X st t) (h2 : PSs X rest u) : PSs X (st :: rest) (tSeq t u) := by
  intro pins s σ H D I h
  refine wpAny_execs_cons (thn (h1 pins s σ H { D with nx := u D } I h) fun f s1 q => ?_)
  cases f with
  | next =>
    obtain ⟨σ', H', I', q⟩ := q
    exact h2 pins s1 σ' H' D I' q
  | ret v => exact q
  | brk => exact q
  | cont => exact q
theorem pss_one (h1 : PS X st t) : PSs X [st] t := by
  intro pins s σ H D I h
  refine wpAny_execs_cons (thn (h1 pins s σ H D I h) fun f s1 q => ?_)
  cases f with
  | next => exact wpAny_execs_nil q
  | ret v => exact q
  | brk => exact q
  | cont => exact q
/-- in a def's body nothing is shown -/
theorem Inv.quiet {pins : List (Addr × Obj)} {σ : St} {H : Hp} {s : Shared} (I : Inv X pins σ H s) : interactive X.env = false := by simp [interactive, I.ok.kind]
/-- an expression whose value is dropped -/
def tDrop (te : TE) : TS := fun D σ H => te σ H fun _ H1 => D.nx σ H1
theorem ps_expr (he : PE X e te) (hs : swapsWith e none pos.line X.env = pure false := by rfl) : PS X (.Expr e pos) (tDrop te) := by
  intro pins s σ H D I h
  exact wpAny_Expr_any (thn (he pins s σ H _ I h) fun v s1 ⟨x, H1, I1, r1, q1⟩ => ⟨σ, H1, I1, q1⟩) I.quiet hs
def tRet (te : TE) : TS := fun D σ H => te σ H D.rt
theorem ps_ret (he : PE X e te) : PS X (.Return (some e) pos) (tRet te) := by
  intro pins s σ H D I h
  exact wpAny_Return_some (thn (he pins s σ H _ I h) fun v s1 ⟨x, H1, I1, r1, q1⟩ => ⟨x, σ, H1, I1, r1, q1⟩)
def tIfS (c : TT) (t u : TS) : TS := fun D σ H => c σ H fun b H1 => if b = true then t D σ H1 else u D σ H1
theorem ps_if {c : Expr} {a b : List Stmt} {tc : TT} (hc : PT X c tc) (ha : PSs X a t) (hb : PSs X b u) : PS X (.If c a b pos) (tIfS tc t u) := by
  intro pins s σ H D I h
  refine wpAny_If (thn (hc pins s σ H _ I h) fun d s1 ⟨H1, I1, q1⟩ => ?_)
  cases d with
  | true => exact ha pins s1 σ H1 D I1 q1
  | false => exact hb pins s1 σ H1 D I1 q1
/-- code that the proof never comes to -/
def tNever : TS := fun _ _ _ => False
theorem ps_never : PS X st tNever := fun _ _ _ _ _ _ h => h.elim
theorem pss_never {sts : List Stmt} : PSs X sts tNever := fun _ _ _ _ _ _ h => h.elim
end

abbrev TG := V → St → Hp → (St → Hp → Prop) → Prop
abbrev TGs := List V → St → Hp → (St → Hp → Prop) → Prop
def PG (X : Cx) (target : Expr) (t : TG) : Prop :=
  ∀ (pins : List (Addr × Obj)) (s : Shared) (σ : St) (H : Hp) (v : V) (u : Value) (Q : St → Hp → Prop), Inv X pins σ H s → RelV v u → t v σ H Q →
    wpAny (model X.prog X.w) X.A (assign target X.env u) (fun _ s' => ∃ σ' H', Inv X pins σ' H' s' ∧ Q σ' H') X.xe s
/-- o[i] = v, by values -/
abbrev TSet := V → V → V → Hp → (Hp → Prop) → Prop
/-- a op= b, by values -/
abbrev TIp := V → V → Hp → VK → Prop
def PIp (X : Cx) (op : Operator) (t : TIp) : Prop :=
  ∀ (pins : List (Addr × Obj)) (s : Shared) (σ : St) (H : Hp) (x y : V) (v u : Value) (Q : VK), Inv X pins σ H s → RelV x v → RelV y u → t x y H Q →
    wpAny (model X.prog X.w) X.A (inplaceOp op v u) (EP X pins σ Q) X.xe s
section
variable {X : Cx} {pos : Pos}
def gName (i : Nat) : TG := fun v σ H Q => Q (σ.set i (some v)) H
theorem pg_name {i : Nat} {x : Str} (hN : X.N.Nodup) (hi : X.N[i]? = some x) (hx : Loc X.env.scope x) (hf : X.fn x = true ∨ X.env.scope.names.lookup x = some .local := by first | exact .inl rfl | exact .inr rfl | assumption) : PG X (.Name x pos) (gName i) := by
  intro pins s σ H v u Q I r h
  exact wpAny_assign_Name (store_ok I hN hi hx r (fun s' I' => ⟨_, H, I', h⟩) hf)
/-- target = value -/
def tAsg (te : TE) (g : TG) : TS := fun D σ H => te σ H fun x H1 => g x σ H1 D.nx
/-- name = value -/
theorem ps_set {i : Nat} {x : Str} {e : Expr} {te : TE} {pos' : Pos} (hN : X.N.Nodup) (hi : X.N[i]? = some x) (hx : Loc X.env.scope x) (he : PE X e te) (hs : swapsWith e (some (.Name x pos')) pos.line X.env = pure false := by rfl) (hf : X.fn x = true ∨ X.env.scope.names.lookup x = some .local := by first | exact .inl rfl | exact .inr rfl | assumption) :
    PS X (.Assign [.Name x pos'] e pos) (tAsg te (gName i)) := by
  intro pins s σ H D I h
  refine wpAny_Assign_Name (thn (he pins s σ H _ I h) fun v s1 ⟨y, H1, I1, r1, q1⟩ => ?_) hs
  exact store_ok I1 hN hi hx r1 (fun s2 I2 => ⟨_, H1, I2, q1⟩) hf
/-- a, b = x, y with plain local names: stored from the right; the pair itself is not tracked (the opening rows as in PyProof/Rows/TupAssign.lean:23) -/
def tPar (i j : Nat) (ta : TA) : TS := fun D σ H => ta σ H fun vs H1 => ∃ v w, vs = [v, w] ∧ D.nx ((σ.set i (some v)).set j (some w)) H1
theorem ps_par {i j : Nat} {x y : Str} {a b : Expr} {ta : TA} {px py pt : Pos} {kt k2 pt2} (hc : X.calm = true) (hN : X.N.Nodup) (hi : X.N[i]? = some x) (hj : X.N[j]? = some y) (hij : i ≠ j)
    (hx : X.env.scope.names.lookup x = some .local) (hy : X.env.scope.names.lookup y = some .local) (ha : PA X [a, b] ta)
    (hw : swappedStores [.Tuple [.Name x px, .Name y py] kt pt] (.Tuple [a, b] k2 pt2) X.env = pure (some [x, y]))
    (hs : swapsWithSole [.Tuple [.Name x px, .Name y py] kt pt] (.Tuple [a, b] k2 pt2) pos.line X.env = pure false := by rfl) :
    PS X (.Assign [.Tuple [.Name x px, .Name y py] kt pt] (.Tuple [a, b] k2 pt2) pos) (tPar i j ta) := by
  intro pins s σ H D I h
  rw [exec_Assign_arm]
  refine wpAny_bind (wpAny_standAt ?_)
  rw [hs]
  refine wpAny_bind (wpAny_pure ?_)
  rw [if_neg (by decide)]
  refine wpAny_bind (Tuple_ (thn (ha _ pins s σ H _ I h) fun us s1 ⟨vs, H1, I1, r1, q1⟩ => ?_))
  obtain ⟨v, w, e1, q1⟩ := q1
  subst e1
  obtain ⟨u1, u2, rfl, rv, rw'⟩ : ∃ u1 u2, us = [u1, u2] ∧ RelV v u1 ∧ RelV w u2 := by
    cases r1 with
    | cons p q =>
      cases q with
      | cons p' q' =>
        cases q'
        exact ⟨_, _, rfl, p, p'⟩
  refine wpAny_newObj_type ?_ (by show 2 ≤ sizeLine; decide)
  have I2 : Inv X pins σ H1 { s1 with heap := s1.heap.push { cls := .type "tuple", data := .seq [u1, u2].toArray } } := I1.kept (t' := s1.toks) fun b o e => Heap.get?_push_of_some _ e
  rw [hw]
  refine wpAny_bind (wpAny_pure ?_)
  show wpAny (model X.prog X.w) X.A (do rule "assign.swapped-stores"; let items ← unpackItems (.ref s1.heap.objs.size) 2 none; assignInOrder [fun v => bindName X.env y v, fun v => bindName X.env x v] items.reverse; pure Flow.next) _ _ _
  refine wpAny_bind (wpAny_rule (wpAny_bind (unpackItems_tuple (items := #[u1, u2]) (I.ok.hd hc) (IsTup.new s1.heap _) fun h' hx' => ?_)))
  have I3 := I2.kept (h' := h') (t' := s1.toks) fun b o e => hx' b o (Nat.ne_of_lt (Heap.lt_size e)) e
  show wpAny _ _ (assignInOrder [fun v => bindName X.env y v, fun v => bindName X.env x v] [u2, u1] >>= fun _ => pure Flow.next) _ _ _
  refine wpAny_bind (assignInOrder_cons (wpAny_bindName (store_ok I3 hN hj (.inl hy) rw' (fun s2 I4 => ?_) (.inr hy))))
  refine assignInOrder_cons (wpAny_bindName (store_ok I4 hN hi (.inl hx) rv (fun s3 I5 => assignInOrder_nil (wpAny_pure ?_)) (.inr hx)))
  rw [List.set_comm _ _ (Ne.symm hij)] at I5
  exact ⟨_, H1, I5, q1⟩
/-- name op= e -/
def tAug (i : Nat) (te : TE) (ti : TIp) : TS := fun D σ H => ∃ x, σ[i]? = some (some x) ∧ te σ H fun y H1 => ti x y H1 fun z H2 => D.nx (σ.set i (some z)) H2
theorem ps_aug {i : Nat} {x : Str} {e : Expr} {te : TE} {op : Operator} {ti : TIp} {pos' : Pos} (hN : X.N.Nodup) (hi : X.N[i]? = some x) (hx : Loc X.env.scope x) (he : PE X e te) (ho : PIp X op ti) (hf : X.fn x = true ∨ X.env.scope.names.lookup x = some .local := by first | exact .inl rfl | exact .inr rfl | assumption) :
    PS X (.AugAssign (.Name x pos') op e pos) (tAug i te ti) := by
  intro pins s σ H D I h
  obtain ⟨v, e1, h⟩ := h
  obtain ⟨m, hn, hl⟩ := I.loc
  have vis : Vis X.env.scope x := by rcases hx with k | k; exact .inl k; exact .inr (.inl k)
  obtain ⟨u, r, l⟩ := hl i x v hi e1 vis
  refine wpAny_AugAssign_Name ?_
  have go : wpAny (model X.prog X.w) X.A (eval e X.env) (fun w s₂ => wpAny (model X.prog X.w) X.A (inplaceOp op u w) (fun r s₃ => wpAny (model X.prog X.w) X.A (storeName X.env x r) (fun _ => SP X pins D .next) X.xe s₃) X.xe s₂) X.xe s := by
    refine thn (he pins s σ H _ I h) fun w s1 ⟨y, H1, I1, r1, q1⟩ => ?_
    refine thn (ho pins s1 σ H1 v y u w _ I1 r r1 q1) fun z s2 ⟨zv, H2, I2, r2, q2⟩ => ?_
    exact store_ok I2 hN hi hx r2 (fun s3 I3 => ⟨_, H2, I3, q2⟩) hf
  rcases l with ⟨hk, hm⟩ | ⟨hk, c, hc, hcell⟩
  · exact wpAny_loadName_local I.ok.kind hk hn hm go
  · rcases hk with hk | hk
    · exact wpAny_loadName_cell I.ok.kind hk hc hcell go
    · rcases hx with k | k
      · have : X.env.scope.names.lookup x = some .free := hk
        rw [k] at this; cases this
      · have : X.env.scope.names.lookup x = some .free := hk
        rw [k] at this; cases this
/-- ints -/
def ipI (f : Int → Int → Int) : TIp := fun x y H Q => ∃ i j, x = .int i ∧ y = .int j ∧ Q (.int (f i j)) H
theorem ip_add : PIp X .Add (ipI fun i j => i + j) := by
  intro pins s σ H x y v u Q I r1 r2 h
  obtain ⟨i, j, e1, e2, q⟩ := h
  subst e1; subst e2
  obtain ⟨t, rfl⟩ := r1
  obtain ⟨t', rfl⟩ := r2
  exact iadd_int ⟨.int _, H, I.tok _, ⟨_, rfl⟩, q⟩
end

section
variable {X : Cx} {pos : Pos}
end

/-- at turn i: it yields x (the heap may grow), or it stops -/
structure It where
  go : Nat → Hp → Prop
  yld : Nat → Hp → V → Hp → Prop
  stop : Nat → Hp → Prop
/-- the iterator's own objects may turn: they are not the frame's, not pinned, younger than the entry (or a comprehension's own) -/
def FpOk (X : Cx) (pins : List (Addr × Obj)) (H : Hp) (b : Addr) : Prop :=
  H b = none ∧ b ≠ X.env.locals ∧ b ∉ X.fs ∧ (b ∈ X.ex ∨ X.s₀.heap.objs.size ≤ b) ∧ (∀ x c, X.env.cells.lookup x = some c → c ≠ b) ∧ ∀ p ∈ X.pn ++ pins, p.1 ≠ b
theorem Inv.fpOk {X : Cx} {pins : List (Addr × Obj)} {σ : St} {H H' : Hp} {s : Shared} {b : Addr} (I : Inv X pins σ H s) (hb : s.heap.objs.size ≤ b) (hn : H' b = none) : FpOk X pins H' b := by
  refine ⟨hn, Nat.ne_of_gt (Nat.lt_of_lt_of_le I.lt hb), I.nofs hb, .inr (Nat.le_trans I.sz hb), fun x c e z => ?_, fun p hp z => ?_⟩
  · obtain ⟨v, q⟩ := I.cell x c e
    exact absurd (Nat.lt_of_lt_of_le q.lt (by rw [z]; exact hb)) (Nat.lt_irrefl _)
  · exact absurd (Nat.lt_of_lt_of_le (Heap.lt_size (I.pin p hp).1) (by rw [z]; exact hb)) (Nat.lt_irrefl _)
structure Turn (P : Program) (w : World) (K : PySem.W.Frag) (tg : Expr) (J : It) (fp : List Addr) (it : Addr) (tn : Nat → Heap → Prop) : Prop where
  mem : it ∈ fp
  obj : ∀ i h, tn i h → ∀ b ∈ fp, ∃ o, h.get? b = some o ∧ ∀ v, o.data ≠ .cell v
  keep : ∀ i h h', tn i h → (∀ b ∈ fp, ∀ o, h.get? b = some o → h'.get? b = some o) → tn i h'
  item : ∀ (X : Cx), X.prog = P → X.w = w → X.K = K → X.calm = true → ∀ (i : Nat) (pins : List (Addr × Obj)) (s : Shared) (σ : St) (H : Hp) (E : Value → Shared → Prop), Inv X pins σ H s → (∀ b ∈ fp, FpOk X pins H b) → tn i s.heap → J.go i H →
    wpAny (model P w) X.A (pyNext (.ref it)) (fun r s1 => ∃ u, r = some u ∧
      wpAny (model P w) X.A (letOwnedTupleGo tg (.ref it) u) (fun _ s2 => ∃ x H', Inv X pins σ H' s2 ∧ RelV x u ∧ J.yld i H x H' ∧ tn (i + 1) s2.heap ∧ ∀ b ∈ fp, H' b = none) E s1) E s
  done : ∀ (X : Cx), X.prog = P → X.w = w → X.K = K → X.calm = true → ∀ (i : Nat) (pins : List (Addr × Obj)) (s : Shared) (σ : St) (H : Hp) (E : Value → Shared → Prop), Inv X pins σ H s → (∀ b ∈ fp, FpOk X pins H b) → tn i s.heap → J.stop i H →
    wpAny (model P w) X.A (pyNext (.ref it)) (fun r s1 => r = none ∧ Inv X pins σ H s1) E s
  self : ∀ (A : Around) (i : Nat) (s : Shared) (Q : Value → Shared → Prop) (E : Value → Shared → Prop), tn i s.heap → Q (.ref it) s → wpAny (model P w) A (pyIter (.ref it)) Q E s
abbrev TI := St → Hp → (It → Hp → Prop) → Prop
/-- an iterator has come -/
def PIE (X : Cx) (pins : List (Addr × Obj)) (σ : St) (tg : Expr) (R : It → Hp → Prop) (itv : Value) (s2 : Shared) : Prop :=
  ∃ (it : Addr) (fp : List Addr) (tn : Nat → Heap → Prop) (J : It) (H' : Hp), itv = .ref it ∧ Inv X pins σ H' s2 ∧ Turn X.prog X.w X.K tg J fp it tn ∧ tn 0 s2.heap ∧ (∀ b ∈ fp, FpOk X pins H' b) ∧ R J H'
def PI (X : Cx) (tg iter : Expr) (wi : TI) : Prop :=
  ∀ (pins : List (Addr × Obj)) (s : Shared) (σ : St) (H : Hp) (R : It → Hp → Prop), Inv X pins σ H s → wi σ H R →
    wpAny (model X.prog X.w) X.A (eval iter X.env) (fun v s1 => wpAny (model X.prog X.w) X.A (pyIter v) (PIE X pins σ tg R) X.xe s1) X.xe s

/-- the step ahead of the store is nothing for an iterator that keeps no tuple -/
theorem go_of {M : Model} {A : Around} {E : Value → Shared → Prop} {s : Shared} {tg : Expr} {it : Addr} {u : Value} {o : Obj} {n : String} {vs : Array Value} {Q : Unit → Shared → Prop} (ho : s.heap.get? it = some o) (hc : o.cls = .type n) (hd : o.data = .fields vs)
    (hn : ["enumerate", "zip", "dict_itemiterator", "dict_reverseitemiterator", "odict_iterator", "itertools.zip_longest", "itertools.pairwise"].contains n = false) (hQ : Q () s) : wpAny M A (letOwnedTupleGo tg (.ref it) u) Q E s := by
  unfold letOwnedTupleGo
  cases tg <;> first
    | exact wpAny_pure hQ
    | (cases u <;> first
        | exact wpAny_pure hQ
        | (refine wpAny_bind (wpAny_load ho ?_)
           rw [hc, hd]
           show wpAny M A (if (["enumerate", "zip", "dict_itemiterator", "dict_reverseitemiterator", "odict_iterator", "itertools.zip_longest", "itertools.pairwise"].contains n && vs[0]? == some (rawInt _)) = true then _ else _) Q E s
           rw [if_neg (by intro h; rw [hn, Bool.false_and] at h; cases h)]
           exact wpAny_pure hQ))

/-- the list at a, as it stands at each turn (a loop may append to it) -/
def Itl (K : PySem.W.Frag) (a : Addr) : It :=
  ⟨fun i H => ∃ xs x, SqL K H a xs ∧ xs[i]? = some x, fun i H x H' => H' = H ∧ ∀ xs, SqL K H a xs → xs[i]? = some x, fun i H => ∃ xs, SqL K H a xs ∧ xs.length ≤ i⟩
def Itt (K : PySem.W.Frag) (a : Addr) : It :=
  ⟨fun i H => ∃ xs x, SqT K H a xs ∧ xs[i]? = some x, fun i H x H' => H' = H ∧ ∀ xs, SqT K H a xs → xs[i]? = some x, fun i H => ∃ xs, SqT K H a xs ∧ xs.length ≤ i⟩
/-- lo, lo + 1, .. (n of them) -/
def Itr (lo : Int) (n : Nat) : It := ⟨fun i _ => i < n, fun i H x H' => H' = H ∧ x = .int (lo + i), fun i _ => n ≤ i⟩
theorem turn_list {P : Program} {w : World} {K : PySem.W.Frag} {tg : Expr} (a it : Addr) : Turn P w K tg (Itl K a) [it] it (fun i h => h.IsListIter it a i) where
  mem := by simp
  obj := fun i h st b hb => by
    have e : b = it := by simpa using hb
    subst e
    obtain ⟨o, e, c, d⟩ := st
    exact ⟨o, e, fun v z => by rw [d] at z; cases z⟩
  keep := fun i h h' st k => st.at fun o e => k it (by simp) o e
  item := by
    intro X hP hw hK hc i pins s σ H E I hf st hg
    subst hP hw hK
    obtain ⟨xs, x, hq, hx⟩ := hg
    obtain ⟨its, rv, p, hz⟩ := I.list hq
    obtain ⟨u, hu, ru⟩ := rv.get hx
    obtain ⟨f0, f1, f2, f3, f4, f5⟩ := hf it (by simp)
    refine wpAny_pyNext_list_item st p.isList (x := u) (by simpa using hu) fun h' st' sb => ?_
    have I1 : Inv X pins σ H { s with heap := h' } := I.turned (t' := s.toks) (fun b o hb e => (sb.2 b hb).trans e) f0 f1 f3 f4 f5
    obtain ⟨o, e, c, d⟩ := id st'
    exact ⟨u, rfl, go_of (s := { s with heap := h' }) e c d (by decide) ⟨x, H, I1, ru, ⟨rfl, fun ys hy => by rw [I.list_inj hy hq]; exact hx⟩, st', fun b hb => (hf b hb).1⟩⟩
  done := by
    intro X hP hw hK hc i pins s σ H E I hf st hg
    subst hP hw hK
    obtain ⟨xs, hq, hx⟩ := hg
    obtain ⟨its, rv, p, hz⟩ := I.list hq
    obtain ⟨f0, f1, f2, f3, f4, f5⟩ := hf it (by simp)
    have hl := rv.length
    exact wpAny_pyNext_list_end (I.ok.hd hc) st p.isList (by simp; omega) fun h' eb => ⟨rfl, I.turned (t' := s.toks) (fun b o hb e => eb b o hb e) f0 f1 f3 f4 f5⟩
  self := fun _ _ _ _ _ st h => wpAny_pyIter_listiter st h
theorem turn_tuple {P : Program} {w : World} {K : PySem.W.Frag} {tg : Expr} (a it : Addr) : Turn P w K tg (Itt K a) [it] it (fun i h => h.IsTupleIter it a i) where
  mem := by simp
  obj := fun i h st b hb => by
    have e : b = it := by simpa using hb
    subst e
    obtain ⟨o, e, c, d⟩ := st
    exact ⟨o, e, fun v z => by rw [d] at z; cases z⟩
  keep := fun i h h' st k => st.at fun o e => k it (by simp) o e
  item := by
    intro X hP hw hK hc i pins s σ H E I hf st hg
    subst hP hw hK
    obtain ⟨xs, x, hq, hx⟩ := hg
    obtain ⟨its, rv, p, hz⟩ := I.tuple hq
    obtain ⟨u, hu, ru⟩ := rv.get hx
    obtain ⟨f0, f1, f2, f3, f4, f5⟩ := hf it (by simp)
    refine wpAny_pyNext_tuple_item st (show s.heap.IsTuple a its.toArray from p) (x := u) (by simpa using hu) fun h' st' sb => ?_
    have I1 : Inv X pins σ H { s with heap := h' } := I.turned (t' := s.toks) (fun b o hb e => (sb.2 b hb).trans e) f0 f1 f3 f4 f5
    obtain ⟨o, e, c, d⟩ := id st'
    exact ⟨u, rfl, go_of (s := { s with heap := h' }) e c d (by decide) ⟨x, H, I1, ru, ⟨rfl, fun ys hy => by rw [I.tuple_inj hy hq]; exact hx⟩, st', fun b hb => (hf b hb).1⟩⟩
  done := by
    intro X hP hw hK hc i pins s σ H E I hf st hg
    subst hP hw hK
    obtain ⟨xs, hq, hx⟩ := hg
    obtain ⟨its, rv, p, hz⟩ := I.tuple hq
    obtain ⟨f0, f1, f2, f3, f4, f5⟩ := hf it (by simp)
    have hl := rv.length
    exact wpAny_pyNext_tuple_end (I.ok.hd hc) st (show s.heap.IsTuple a its.toArray from p) (by simp; omega) fun h' eb => ⟨rfl, I.turned (t' := s.toks) (fun b o hb e => eb b o hb e) f0 f1 f3 f4 f5⟩
  self := fun _ _ _ _ _ st h => wpAny_pyIter_tupleiter st h
theorem turn_range {P : Program} {w : World} {K : PySem.W.Frag} {tg : Expr} (it : Addr) (lo : Int) (n : Nat) : Turn P w K tg (Itr lo n) [it] it (fun i h => IsRangeIter h it (lo + (i : Nat) * 1) ((n : Int) - (i : Nat)) 1) where
  mem := by simp
  obj := fun i h st b hb => by
    have e : b = it := by simpa using hb
    subst e
    exact ⟨_, st, fun v z => by
      have z' : Data.fields _ = Data.cell v := z
      cases z'⟩
  keep := fun i h h' st k => k it (by simp) _ st
  item := by
    intro X hP hw hK hc i pins s σ H E I hf st hg
    subst hP hw hK
    obtain ⟨f0, f1, f2, f3, f4, f5⟩ := hf it (by simp)
    have W := Walks.range (prog := X.prog) (w := X.w) (I.ok.hd hc) it lo 1 n
    refine W.item i s _ _ hg st fun v h' tk hv st' kk => ?_
    obtain ⟨t, rfl⟩ := hv
    have I1 : Inv X pins σ H { s with heap := h', toks := tk } := I.turned (fun b o hb e => kk b o (by simpa using hb) e) f0 f1 f3 f4 f5
    refine ⟨_, rfl, go_of (s := { s with heap := h', toks := tk }) (n := "range_iterator") st' rfl rfl (by decide) ⟨.int (lo + i), H, I1, ⟨t, ?_⟩, ⟨rfl, rfl⟩, st', fun b hb => (hf b hb).1⟩⟩
    rw [Int.mul_one]
  done := by
    intro X hP hw hK hc i pins s σ H E I hf st hg
    subst hP hw hK
    obtain ⟨f0, f1, f2, f3, f4, f5⟩ := hf it (by simp)
    exact wpAny_pyNext_range_end (I.ok.hd hc) st (by have : n ≤ i := hg; omega) fun h' eb => ⟨rfl, I.turned (t' := s.toks) (fun b o hb e => eb b o hb e) f0 f1 f3 f4 f5⟩
  self := fun _ _ _ _ _ st h => wpAny_pyIter_rangeiter st h
end L2

namespace L2
open PySem PySem.Spec PyProof.Rows
section
variable {X : Cx} {tg : Expr}
def iList (K : PySem.W.Frag) (tl : TE) : TI := fun σ H R => tl σ H fun x H1 => ∃ a, x = .ref a ∧ (∃ xs, SqL K H1 a xs) ∧ R (Itl K a) H1
def iTup (K : PySem.W.Frag) (tl : TE) : TI := fun σ H R => tl σ H fun x H1 => ∃ a, x = .ref a ∧ (∃ xs, SqT K H1 a xs) ∧ R (Itt K a) H1
theorem pi_list {l : Expr} {tl : TE} (hl : PE X l tl) : PI X tg l (iList X.K tl) := by
  intro pins s σ H R I h
  refine thn (hl pins s σ H _ I h) fun v s1 ⟨x, H1, I1, r1, q1⟩ => ?_
  obtain ⟨a, e, ⟨xs, hq⟩, q⟩ := q1
  subst e
  cases r1
  obtain ⟨its, rv, p, hz⟩ := I1.list hq
  refine wpAny_pyIter_list p.isList ?_
  refine ⟨s1.heap.objs.size, [s1.heap.objs.size], _, _, H1, rfl, I1.kept (t' := s1.toks) fun b o e => Heap.get?_push_of_some _ e, turn_list a _, ⟨_, Heap.get?_push_size _ rfl, rfl, rfl⟩, fun b hb => ?_, q⟩
  have e : b = s1.heap.objs.size := by simpa using hb
  subst e
  exact I1.fpOk (Nat.le_refl _) (I1.hok.fresh (Nat.le_refl _))
theorem pi_tup {l : Expr} {tl : TE} (hl : PE X l tl) : PI X tg l (iTup X.K tl) := by
  intro pins s σ H R I h
  refine thn (hl pins s σ H _ I h) fun v s1 ⟨x, H1, I1, r1, q1⟩ => ?_
  obtain ⟨a, e, ⟨xs, hq⟩, q⟩ := q1
  subst e
  cases r1
  obtain ⟨its, rv, p, hz⟩ := I1.tuple hq
  refine wpAny_pyIter_tuple (show s1.heap.IsTuple a its.toArray from p) ?_
  refine ⟨s1.heap.objs.size, [s1.heap.objs.size], _, _, H1, rfl, I1.kept (t' := s1.toks) fun b o e => Heap.get?_push_of_some _ e, turn_tuple a _, ⟨_, Heap.get?_push_size _ rfl, rfl, rfl⟩, fun b hb => ?_, q⟩
  have e : b = s1.heap.objs.size := by simpa using hb
  subst e
  exact I1.fpOk (Nat.le_refl _) (I1.hok.fresh (Nat.le_refl _))
/-- W: the invariant by the turn and a measure; N: what the body is to reach -/
def tFor (wi : TI) (g : TG) (tb : TS) : TS := fun D σ H => wi σ H fun J H1 => ∃ W : Nat → Nat → St → Hp → Prop, (∃ m, W 0 m σ H1) ∧ ∀ i m σ H, W i m σ H →
  (J.stop i H ∧ D.nx σ H) ∨ (J.go i H ∧ ∃ N : St → Hp → Prop, (∀ σ' H', N σ' H' → ∃ m', m' < m ∧ W (i + 1) m' σ' H') ∧ ∀ x H', J.yld i H x H' → g x σ H' fun σ2 H2 => tb { D with nx := N, ct := N, bk := D.nx } σ2 H2)
/-- the records at fp as they stand -/
def pinsAt (fp : List Addr) (h : Heap) : List (Addr × Obj) := fp.filterMap fun b => (h.get? b).map fun o => (b, o)
theorem mem_pinsAt {fp : List Addr} {h : Heap} {b : Addr} {o : Obj} (hb : b ∈ fp) (e : h.get? b = some o) : (b, o) ∈ pinsAt fp h := List.mem_filterMap.mpr ⟨b, hb, by rw [e]; rfl⟩
theorem of_pinsAt {fp : List Addr} {h : Heap} {p : Addr × Obj} (hp : p ∈ pinsAt fp h) : p.1 ∈ fp ∧ h.get? p.1 = some p.2 := by
  obtain ⟨b, hb, e⟩ := List.mem_filterMap.mp hp
  cases q : h.get? b with
  | none => rw [q] at e; cases e
  | some o =>
    rw [q] at e
    have e' : (b, o) = p := Option.some.inj e
    subst e'
    exact ⟨hb, q⟩
theorem Inv.pinned {pins : List (Addr × Obj)} {σ : St} {H : Hp} {s : Shared} {fp : List Addr} (I : Inv X pins σ H s) (hf : ∀ b ∈ fp, FpOk X pins H b) (ho : ∀ b ∈ fp, ∃ o, s.heap.get? b = some o ∧ ∀ v, o.data ≠ .cell v) : Inv X (pins ++ pinsAt fp s.heap) σ H s :=
  I.pins_of fun p hp => (List.mem_append.mp hp).elim (fun z => I.pin p (List.mem_append_right _ z)) fun z => by
    obtain ⟨hb, e⟩ := of_pinsAt z
    obtain ⟨f0, f1, f2, _⟩ := hf p.1 hb
    obtain ⟨o, e', d⟩ := ho p.1 hb
    rw [e] at e'; cases e'
    exact ⟨e, f0, f1, f2, d⟩
theorem Inv.unpinned {pins pl : List (Addr × Obj)} {σ : St} {H : Hp} {s : Shared} (I : Inv X (pins ++ pl) σ H s) : Inv X pins σ H s := I.pins_of fun p hp => I.pin p (List.mem_append_right _ (List.mem_append_left _ hp))
theorem ps_for {iter : Expr} {body : List Stmt} {wi : TI} {g : TG} {tb : TS} {pos : Pos} (hp : PassesOwn (model X.prog X.w) X.A X.env X.xe) (hc : X.calm = true) (hi : PI X tg iter wi) (hg : PG X tg g) (hb : PSs X body tb)
    (hs : ∀ x, foldedSetIterable iter X.env x = pure x := by intro _; rfl) : PS X (.For tg iter body [] pos) (tFor wi g tb) := by
  intro pins s σ H D I h
  refine wpAny_For (thn (hi pins s σ H _ I h) fun v s1 h1 => thn h1 fun itv s2 h2 => ?_) hs
  obtain ⟨it, fp, tn, J, H2, e, I2, T, st2, f2, W, ⟨m0, w0⟩, turn⟩ := h2
  subst e
  -- what stays true of the iterator's objects through the loop
  have stat : ∀ {H' : Hp}, (∀ b ∈ fp, H' b = none) → ∀ b ∈ fp, FpOk X pins H' b := fun hn b hb => ⟨hn b hb, (f2 b hb).2⟩
  refine codeAny_forLoop_any (fun n s' => ∃ i σ' H', Inv X pins σ' H' s' ∧ tn i s'.heap ∧ (∀ b ∈ fp, H' b = none) ∧ W i n σ' H') ?_ m0 ⟨0, σ, H2, I2, st2, fun b hb => (f2 b hb).1, w0⟩
  rintro n s3 ⟨i, σ3, H3, I3, st3, fr3, w3⟩
  rcases turn i n σ3 H3 w3 with ⟨stop, qn⟩ | ⟨go, N, hN, step⟩
  · refine wpAny_passesOwn hp (thn (T.done X rfl rfl rfl hc i pins s3 σ3 H3 X.xe I3 (stat fr3) st3 stop) fun r s4 ⟨hr, I4⟩ => ?_)
    subst hr
    exact wpAny_execs_nil ⟨σ3, H3, I4, qn⟩
  · refine wpAny_passesOwn hp (thn (T.item X rfl rfl rfl hc i pins s3 σ3 H3 X.xe I3 (stat fr3) st3 go) fun r s4 ⟨u, hr, h4⟩ => ?_)
    subst hr
    refine wpAny_passesOwn hp (thn h4 fun _ s5 ⟨x, H5, I5, r5, y5, st5, fr5⟩ => ?_)
    have I5' := I5.pinned (stat fr5) (T.obj _ _ st5)
    refine wpAny_passesOwn hp (thn (hg _ s5 σ3 H5 x u _ I5' r5 (step x H5 y5)) fun _ s6 ⟨σ6, H6, I6, q6⟩ => ?_)
    refine wpAny_passesOwn hp (thn (hb _ s6 σ6 H6 _ I6 q6) fun f s7 q7 => ?_)
    have again : ∀ {σ7 : St} {H7 : Hp}, Inv X (pins ++ pinsAt fp s5.heap) σ7 H7 s7 → N σ7 H7 → ∃ m, m < n ∧ ∃ i σ' H', Inv X pins σ' H' s7 ∧ tn i s7.heap ∧ (∀ b ∈ fp, H' b = none) ∧ W i m σ' H' := fun {σ7 H7} I7 n7 => by
      obtain ⟨m', hm, w7⟩ := hN σ7 H7 n7
      refine ⟨m', hm, i + 1, σ7, H7, I7.unpinned, T.keep _ _ _ st5 fun b hb o e => (I7.pin (b, o) (List.mem_append_right _ (List.mem_append_right _ (mem_pinsAt hb e)))).1, fun b hb => ?_, w7⟩
      obtain ⟨o, e, d⟩ := T.obj _ _ st5 b hb
      exact (I7.pin (b, o) (List.mem_append_right _ (List.mem_append_right _ (mem_pinsAt hb e)))).2.1
    cases f with
    | next => obtain ⟨σ7, H7, I7, n7⟩ := q7; exact again I7 n7
    | cont => obtain ⟨σ7, H7, I7, n7⟩ := q7; exact again I7 n7
    | brk => obtain ⟨σ7, H7, I7, q7⟩ := q7; exact ⟨σ7, H7, I7.unpinned, q7⟩
    | ret v => obtain ⟨x7, σ7, H7, I7, r7, q7⟩ := q7; exact ⟨x7, σ7, H7, I7.unpinned, r7, q7⟩
end

/-- over a list that the body leaves as it is -/
theorem for_list {K : PySem.W.Frag} {a : Addr} {xs : List V} {g : TG} {tb : TS} {D : Ends} {σ : St} {H : Hp} (Pv : Nat → St → Hp → Prop) (h0 : Pv 0 σ H) (hl : ∀ i σ H, i ≤ xs.length → Pv i σ H → SqL K H a xs)
    (hs : ∀ i x σ H, xs[i]? = some x → Pv i σ H → g x σ H fun σ2 H2 => tb { D with nx := Pv (i + 1), ct := Pv (i + 1), bk := D.nx } σ2 H2) (hd : ∀ σ H, Pv xs.length σ H → D.nx σ H) :
    ∃ W : Nat → Nat → St → Hp → Prop, (∃ m, W 0 m σ H) ∧ ∀ i m σ H, W i m σ H →
      ((Itl K a).stop i H ∧ D.nx σ H) ∨ ((Itl K a).go i H ∧ ∃ N : St → Hp → Prop, (∀ σ' H', N σ' H' → ∃ m', m' < m ∧ W (i + 1) m' σ' H') ∧ ∀ x H', (Itl K a).yld i H x H' → g x σ H' fun σ2 H2 => tb { D with nx := N, ct := N, bk := D.nx } σ2 H2) := by
  refine ⟨fun i m σ H => m = xs.length - i ∧ i ≤ xs.length ∧ Pv i σ H, ⟨xs.length, by simp, Nat.zero_le _, h0⟩, ?_⟩
  rintro i m σ H ⟨rfl, hi, p⟩
  have q := hl i σ H hi p
  by_cases hlt : i < xs.length
  · refine .inr ⟨⟨xs, xs[i], q, by simp [hlt]⟩, Pv (i + 1), fun σ' H' p' => ⟨xs.length - (i + 1), by omega, rfl, hlt, p'⟩, fun x H' y => ?_⟩
    obtain ⟨e, y⟩ := y
    subst e
    exact hs i x σ _ (y xs q) p
  · have e : i = xs.length := by omega
    subst e
    exact .inl ⟨⟨xs, q, Nat.le_refl _⟩, hd σ H p⟩
theorem for_tup {K : PySem.W.Frag} {a : Addr} {xs : List V} {g : TG} {tb : TS} {D : Ends} {σ : St} {H : Hp} (Pv : Nat → St → Hp → Prop) (h0 : Pv 0 σ H) (hl : ∀ i σ H, i ≤ xs.length → Pv i σ H → SqT K H a xs)
    (hs : ∀ i x σ H, xs[i]? = some x → Pv i σ H → g x σ H fun σ2 H2 => tb { D with nx := Pv (i + 1), ct := Pv (i + 1), bk := D.nx } σ2 H2) (hd : ∀ σ H, Pv xs.length σ H → D.nx σ H) :
    ∃ W : Nat → Nat → St → Hp → Prop, (∃ m, W 0 m σ H) ∧ ∀ i m σ H, W i m σ H →
      ((Itt K a).stop i H ∧ D.nx σ H) ∨ ((Itt K a).go i H ∧ ∃ N : St → Hp → Prop, (∀ σ' H', N σ' H' → ∃ m', m' < m ∧ W (i + 1) m' σ' H') ∧ ∀ x H', (Itt K a).yld i H x H' → g x σ H' fun σ2 H2 => tb { D with nx := N, ct := N, bk := D.nx } σ2 H2) := by
  refine ⟨fun i m σ H => m = xs.length - i ∧ i ≤ xs.length ∧ Pv i σ H, ⟨xs.length, by simp, Nat.zero_le _, h0⟩, ?_⟩
  rintro i m σ H ⟨rfl, hi, p⟩
  have q := hl i σ H hi p
  by_cases hlt : i < xs.length
  · refine .inr ⟨⟨xs, xs[i], q, by simp [hlt]⟩, Pv (i + 1), fun σ' H' p' => ⟨xs.length - (i + 1), by omega, rfl, hlt, p'⟩, fun x H' y => ?_⟩
    obtain ⟨e, y⟩ := y
    subst e
    exact hs i x σ _ (y xs q) p
  · have e : i = xs.length := by omega
    subst e
    exact .inl ⟨⟨xs, q, Nat.le_refl _⟩, hd σ H p⟩
theorem for_range {lo : Int} {n : Nat} {g : TG} {tb : TS} {D : Ends} {σ : St} {H : Hp} (Pv : Nat → St → Hp → Prop) (h0 : Pv 0 σ H)
    (hs : ∀ i σ H, i < n → Pv i σ H → g (.int (lo + i)) σ H fun σ2 H2 => tb { D with nx := Pv (i + 1), ct := Pv (i + 1), bk := D.nx } σ2 H2) (hd : ∀ σ H, Pv n σ H → D.nx σ H) :
    ∃ W : Nat → Nat → St → Hp → Prop, (∃ m, W 0 m σ H) ∧ ∀ i m σ H, W i m σ H →
      ((Itr lo n).stop i H ∧ D.nx σ H) ∨ ((Itr lo n).go i H ∧ ∃ N : St → Hp → Prop, (∀ σ' H', N σ' H' → ∃ m', m' < m ∧ W (i + 1) m' σ' H') ∧ ∀ x H', (Itr lo n).yld i H x H' → g x σ H' fun σ2 H2 => tb { D with nx := N, ct := N, bk := D.nx } σ2 H2) := by
  refine ⟨fun i m σ H => m = n - i ∧ i ≤ n ∧ Pv i σ H, ⟨n, by simp, Nat.zero_le _, h0⟩, ?_⟩
  rintro i m σ H ⟨rfl, hi, p⟩
  by_cases hlt : i < n
  · refine .inr ⟨hlt, Pv (i + 1), fun σ' H' p' => ⟨n - (i + 1), by omega, rfl, hlt, p'⟩, fun x H' y => ?_⟩
    obtain ⟨e, y⟩ := y
    subst e y
    exact hs i σ _ hlt p
  · have e : i = n := by omega
    subst e
    exact .inl ⟨Nat.le_refl _, hd σ H p⟩
end L2

namespace L2
open PySem PySem.Spec PyProof.Rows

abbrev R2 := V → V → Hp → VK → Prop
/-- a two-place operation on values: f is binaryOp op, inplaceOp op or compareOp op -/
def OpR (X : Cx) (f : Value → Value → Sem Value) (r : R2) : Prop :=
  ∀ (pins : List (Addr × Obj)) (s : Shared) (σ : St) (H : Hp) (x y : V) (v u : Value) (Q : VK), Inv X pins σ H s → RelV x v → RelV y u → r x y H Q →
    wpAny (model X.prog X.w) X.A (f v u) (EP X pins σ Q) X.xe s
/-- a one-place operation -/
def UnR (X : Cx) (f : Value → Sem Value) (r : V → Hp → VK → Prop) : Prop :=
  ∀ (pins : List (Addr × Obj)) (s : Shared) (σ : St) (H : Hp) (x : V) (v : Value) (Q : VK), Inv X pins σ H s → RelV x v → r x H Q →
    wpAny (model X.prog X.w) X.A (f v) (EP X pins σ Q) X.xe s
/-- a call of a value that is known (a builtin, a type) with values -/
def CallR (X : Cx) (f : Value) (r : List V → Hp → VK → Prop) : Prop :=
  ∀ (pins : List (Addr × Obj)) (s : Shared) (σ : St) (H : Hp) (xs : List V) (us : List Value) (Q : VK), Inv X pins σ H s → Vals xs us → r xs H Q →
    wpAny (model X.prog X.w) X.A (call f us) (EP X pins σ Q) X.xe s
/-- a value's truth -/
def TruR (X : Cx) (r : V → Hp → (Bool → Hp → Prop) → Prop) : Prop :=
  ∀ (pins : List (Addr × Obj)) (s : Shared) (σ : St) (H : Hp) (x : V) (v : Value) (Q : Bool → Hp → Prop), Inv X pins σ H s → RelV x v → r x H Q →
    wpAny (model X.prog X.w) X.A (truthy v) (TP X pins σ Q) X.xe s

def tOp (r : R2) (ta tb : TE) : TE := fun σ H Q => ta σ H fun x H1 => tb σ H1 fun y H2 => r x y H2 Q
def tUn (r : V → Hp → VK → Prop) (ta : TE) : TE := fun σ H Q => ta σ H fun x H1 => r x H1 Q
/-- ints in, under C, and a value out -/
def rI (C : Int → Int → Prop) (g : Int → Int → V) : R2 := fun x y H Q => ∃ i j, x = .int i ∧ y = .int j ∧ C i j ∧ Q (g i j) H
def rI0 (g : Int → Int → V) : R2 := fun x y H Q => ∃ i j, x = .int i ∧ y = .int j ∧ Q (g i j) H
def rU (g : Int → V) : V → Hp → VK → Prop := fun x H Q => ∃ i, x = .int i ∧ Q (g i) H

section
variable {X : Cx} {a b c : Expr} {ta tb tc : TE} {pos : Pos}

theorem binT (ha : PE X a ta) (hb : PE X b tb) {pins : List (Addr × Obj)} {s : Shared} {σ : St} {H : Hp} {R : V → V → Hp → Prop} (I : Inv X pins σ H s)
    (h : ta σ H fun x H1 => tb σ H1 fun y H2 => R x y H2) {Q : Value → Shared → Prop} {f : Value → Value → Sem Value}
    (hf : ∀ v u s2 x y H2, Inv X pins σ H2 s2 → RelV x v → RelV y u → R x y H2 → wpAny (model X.prog X.w) X.A (f v u) Q X.xe s2) :
    wpAny (model X.prog X.w) X.A (eval a X.env) (fun v s₁ => wpAny (model X.prog X.w) X.A (eval b X.env) (fun u s₂ => wpAny (model X.prog X.w) X.A (f v u) Q X.xe s₂) X.xe s₁) X.xe s := by
  refine thn (ha pins s σ H _ I h) fun v s1 ⟨x, H1, I1, r1, q1⟩ => ?_
  refine thn (hb pins s1 σ H1 _ I1 q1) fun u s2 ⟨y, H2, I2, r2, q2⟩ => ?_
  exact hf v u s2 x y H2 I2 r1 r2 q2

theorem pe_op {op : Operator} {r : R2} (ho : OpR X (binaryOp op) r) (ha : PE X a ta) (hb : PE X b tb) : PE X (.BinOp a op b pos) (tOp r ta tb) := by
  intro pins s σ H Q I h
  exact wpAny_BinOp (binT ha hb I h fun v u s2 x y H2 I2 rx ry q => ho pins s2 σ H2 x y v u Q I2 rx ry q)
theorem pe_un {op : UnaryOp} {r : V → Hp → VK → Prop} (ho : UnR X (unaryOp op) r) (ha : PE X a ta) : PE X (.UnaryOp op a pos) (tUn r ta) := by
  intro pins s σ H Q I h
  exact UnaryOp_ (thn (ha pins s σ H _ I h) fun v s1 ⟨x, H1, I1, r1, q1⟩ => ho pins s1 σ H1 x v Q I1 r1 q1)
theorem opI {f : Value → Value → Sem Value} {C : Int → Int → Prop} {g : Int → Int → Int}
    (rule : ∀ (i j : Int) (t u : Tok) (s : Shared) (Q : Value → Shared → Prop) (E : Value → Shared → Prop), C i j → Q (.int (g i j) s.toks) { s with toks := s.toks + 1 } → wpAny (model X.prog X.w) X.A (f (.int i t) (.int j u)) Q E s) :
    OpR X f (rI C fun i j => .int (g i j)) := by
  intro pins s σ H x y v u Q I rx ry h
  obtain ⟨i, j, rfl, rfl, hc, q⟩ := h
  obtain ⟨t, rfl⟩ := rx
  obtain ⟨t', rfl⟩ := ry
  exact rule i j t t' s _ _ hc ⟨.int (g i j), H, I.tok _, ⟨_, rfl⟩, q⟩
theorem opI0 {f : Value → Value → Sem Value} {g : Int → Int → Int}
    (rule : ∀ (i j : Int) (t u : Tok) (s : Shared) (Q : Value → Shared → Prop) (E : Value → Shared → Prop), Q (.int (g i j) s.toks) { s with toks := s.toks + 1 } → wpAny (model X.prog X.w) X.A (f (.int i t) (.int j u)) Q E s) :
    OpR X f (rI0 fun i j => .int (g i j)) := by
  intro pins s σ H x y v u Q I rx ry h
  obtain ⟨i, j, rfl, rfl, q⟩ := h
  obtain ⟨t, rfl⟩ := rx
  obtain ⟨t', rfl⟩ := ry
  exact rule i j t t' s _ _ ⟨.int (g i j), H, I.tok _, ⟨_, rfl⟩, q⟩
theorem opB0 {f : Value → Value → Sem Value} {g : Int → Int → Bool}
    (rule : ∀ (i j : Int) (t u : Tok) (s : Shared) (Q : Value → Shared → Prop) (E : Value → Shared → Prop), Q (.bool (g i j)) s → wpAny (model X.prog X.w) X.A (f (.int i t) (.int j u)) Q E s) :
    OpR X f (rI0 fun i j => .bl (g i j)) := by
  intro pins s σ H x y v u Q I rx ry h
  obtain ⟨i, j, rfl, rfl, q⟩ := h
  obtain ⟨t, rfl⟩ := rx
  obtain ⟨t', rfl⟩ := ry
  exact rule i j t t' s _ _ ⟨.bl (g i j), H, I, rfl, q⟩

def CPow (i j : Int) : Prop := 0 ≤ j ∧ j ≤ 1000000 ∧ i.natAbs < 2 ^ 64
def CMul (i j : Int) : Prop := (-(2 ^ 64) < i ∧ i < 2 ^ 64) ∨ (-(2 ^ 64) < j ∧ j < 2 ^ 64)
theorem CMul.ok {i j : Int} (h : CMul i j) : IntMulOk i j := by
  rcases h with ⟨h1, h2⟩ | ⟨h1, h2⟩
  · exact .of_left (intBits_le_64 h1 h2)
  · exact .of_right (intBits_le_64 h1 h2)
theorem two_pow_nn (k : Nat) : (0 : Int) ≤ 2 ^ k := by
  rw [two_pow_cast]
  exact Int.natCast_nonneg _

theorem op_add : OpR X (binaryOp .Add) (rI0 fun i j => .int (i + j)) := opI0 fun _ _ _ _ _ _ _ q => add_int q
theorem op_sub : OpR X (binaryOp .Sub) (rI0 fun i j => .int (i - j)) := opI0 fun _ _ _ _ _ _ _ q => sub_int q
theorem op_mul : OpR X (binaryOp .Mult) (rI CMul fun i j => .int (i * j)) := opI fun _ _ _ _ _ _ _ hc q => mul_int q hc.ok
/-- % by a positive divisor of any size -/
theorem op_mod : OpR X (binaryOp .Mod) (rI (fun _ j => 0 < j) fun i j => .int (i % j)) := opI fun i j _ _ _ _ _ hc q => by
  have h1 : (0 : Int) < j := hc
  exact mod_int' (by omega) (by rw [Int.fmod_eq_emod_of_nonneg i (by omega)]; exact q)
theorem op_pow : OpR X (binaryOp .Pow) (rI CPow fun i j => .int (i ^ j.toNat)) := opI fun _ _ _ _ _ _ _ hc q => pow_int_small hc.1 hc.2.1 hc.2.2 q
theorem op_shl : OpR X (binaryOp .LShift) (rI CPow fun i j => .int (i * 2 ^ j.toNat)) := opI fun _ _ _ _ _ _ _ hc q => lshift_int_small hc.1 hc.2.1 hc.2.2 q
theorem op_shr : OpR X (binaryOp .RShift) (rI (fun _ j => 0 ≤ j) fun i j => .int (i / 2 ^ j.toNat)) := opI fun i j _ _ _ _ _ hc q =>
  rshift_int hc (by rw [Int.fdiv_eq_ediv_of_nonneg i (two_pow_nn _)]; exact q)
theorem op_and : OpR X (binaryOp .BitAnd) (rI0 fun i j => .int (Builtin.bitAnd i j)) := opI0 fun _ _ _ _ _ _ _ q => and_int q
theorem op_xor : OpR X (binaryOp .BitXor) (rI0 fun i j => .int (Builtin.bitXor i j)) := opI0 fun _ _ _ _ _ _ _ q => xor_int q

theorem unI {f : Value → Sem Value} {g : Int → Int}
    (rule : ∀ (i : Int) (t : Tok) (s : Shared) (Q : Value → Shared → Prop) (E : Value → Shared → Prop), Q (.int (g i) s.toks) { s with toks := s.toks + 1 } → wpAny (model X.prog X.w) X.A (f (.int i t)) Q E s) :
    UnR X f (rU fun i => .int (g i)) := by
  intro pins s σ H x v Q I rx h
  obtain ⟨i, rfl, q⟩ := h
  obtain ⟨t, rfl⟩ := rx
  exact rule i t s _ _ ⟨.int (g i), H, I.tok _, ⟨_, rfl⟩, q⟩
theorem un_neg : UnR X (unaryOp .USub) (rU fun i => .int (-i)) := unI fun _ _ _ _ _ q => neg_int q
end

/-- the scalars that == tells apart as data does -/
def scal : V → V → Bool
  | .non, .non => true | .non, .int _ => true | .int _, .non => true | .non, .bl _ => true | .bl _, .non => true | .non, .str _ => true | .str _, .non => true
  | .int _, .int _ => true | .bl _, .bl _ => true | .str _, .str _ => true | .byt _, .byt _ => true
  | .int _, .str _ => true | .str _, .int _ => true | .bl _, .str _ => true | .str _, .bl _ => true
  | _, _ => false
def rEq : R2 := fun x y H Q => scal x y = true ∧ Q (.bl (decide (x = y))) H
theorem dec_int {i j : Int} : decide (V.int i = V.int j) = (i == j) := by
  rw [Bool.eq_iff_iff]
  simp
theorem dec_bl {i j : Bool} : decide (V.bl i = V.bl j) = (i == j) := by
  rw [Bool.eq_iff_iff]
  simp
theorem dec_str {i j : Str} : decide (V.str i = V.str j) = (i == j) := by
  rw [Bool.eq_iff_iff]
  simp
theorem dec_byt {i j : Array UInt8} : decide (V.byt i = V.byt j) = (i.toList == j.toList) := by
  rw [Bool.eq_iff_iff]
  cases i
  cases j
  simp

section
variable {X : Cx} {a b c : Expr} {ta tb tc : TE} {pos : Pos}
theorem fin_bl {pins : List (Addr × Obj)} {σ : St} {H : Hp} {s : Shared} {Q : VK} {k k' : Bool} (I : Inv X pins σ H s) (q : Q (.bl k) H) (e : k = k') : EP X pins σ Q (.bool k') s := by
  subst e
  exact ⟨.bl k, H, I, rfl, q⟩
theorem op_eq : OpR X (compareOp .Eq) rEq := by
  intro pins s σ H x y v u Q I rx ry h
  obtain ⟨hs, q⟩ := h
  cases x with
  | non =>
    cases rx
    cases y with
    | non => cases ry; exact PySem.EqNone.eq_none_none (fin_bl I q (by simp))
    | bl j => cases ry; exact PySem.EqNone.eq_none_bool (fin_bl I q (by simp))
    | int j => obtain ⟨t', rfl⟩ := ry; exact PySem.EqNone.eq_none_int (fin_bl I q (by simp))
    | str j => obtain ⟨t', rfl⟩ := ry; exact PySem.EqNone.eq_none_str (fin_bl I q (by simp))
    | _ => exact absurd (show false = true from hs) Bool.false_ne_true
  | bl i =>
    cases rx
    cases y with
    | non => cases ry; exact PySem.EqNone.eq_bool_none (fin_bl I q (by simp))
    | bl j => cases ry; exact eq_bool (fin_bl I q dec_bl)
    | str j => obtain ⟨t', rfl⟩ := ry; exact PySem.EqMixed.eq_bool_str (fin_bl I q (by simp))
    | _ => exact absurd (show false = true from hs) Bool.false_ne_true
  | int i =>
    obtain ⟨t, rfl⟩ := rx
    cases y with
    | non => cases ry; exact PySem.EqNone.eq_int_none (fin_bl I q (by simp))
    | int j => obtain ⟨t', rfl⟩ := ry; exact eq_int (fin_bl I q dec_int)
    | str j => obtain ⟨t', rfl⟩ := ry; exact PySem.EqMixed.eq_int_str (fin_bl I q (by simp))
    | _ => exact absurd (show false = true from hs) Bool.false_ne_true
  | str i =>
    obtain ⟨t, rfl⟩ := rx
    cases y with
    | non => cases ry; exact PySem.EqNone.eq_str_none (fin_bl I q (by simp))
    | bl j => cases ry; exact PySem.EqMixed.eq_str_bool (fin_bl I q (by simp))
    | int j => obtain ⟨t', rfl⟩ := ry; exact PySem.EqMixed.eq_str_int (fin_bl I q (by simp))
    | str j => obtain ⟨t', rfl⟩ := ry; exact eq_str (fin_bl I q dec_str)
    | _ => exact absurd (show false = true from hs) Bool.false_ne_true
  | byt i =>
    obtain ⟨t, rfl⟩ := rx
    cases y with
    | byt j => obtain ⟨t', rfl⟩ := ry; exact PySem.W.eq_bytes (fin_bl I q dec_byt)
    | _ => exact absurd (show false = true from hs) Bool.false_ne_true
  | _ => cases y <;> exact absurd (show false = true from hs) Bool.false_ne_true
theorem op_lt : OpR X (compareOp .Lt) (rI0 fun i j => .bl (decide (i < j))) := opB0 fun _ _ _ _ _ _ _ q => lt_int q
theorem op_gt : OpR X (compareOp .Gt) (rI0 fun i j => .bl (decide (j < i))) := opB0 fun _ _ _ _ _ _ _ q => gt_int q
theorem op_ge : OpR X (compareOp .GtE) (rI0 fun i j => .bl (decide (j ≤ i))) := opB0 fun _ _ _ _ _ _ _ q => ge_int q
/-- two rules for one operation: by cases -/
theorem OpR.or {f : Value → Value → Sem Value} {r r' : R2} (h : OpR X f r) (h' : OpR X f r') : OpR X f (fun x y H Q => r x y H Q ∨ r' x y H Q) := by
  intro pins s σ H x y v u Q I rx ry q
  rcases q with q | q
  · exact h pins s σ H x y v u Q I rx ry q
  · exact h' pins s σ H x y v u Q I rx ry q

theorem nomark (b : Expr) {op : CmpOp} (h : op ≠ .In := by decide) (h2 : op ≠ .NotIn := by decide) : behindInMarks op b = false := by
  have e1 : (op == CmpOp.In) = false := by cases op <;> first | rfl | exact absurd rfl h
  have e2 : (op == CmpOp.NotIn) = false := by cases op <;> first | rfl | exact absurd rfl h2
  cases b <;> simp [behindInMarks, e1, e2]
/-- a comparison as a value; hm: nomark b, or (for in, not in) by with_unfolding_all rfl -/
theorem pe_cmpR {op : CmpOp} {r : R2} (ho : OpR X (compareOp op) r) (ha : PE X a ta) (hb : PE X b tb) (hm : behindInMarks op b = false) : PE X (.Compare a [op] [b] pos) (tOp r ta tb) := by
  intro pins s σ H Q I h
  exact wpAny_Compare1 (binT ha hb I h fun v u s2 x y H2 I2 rx ry q => ho pins s2 σ H2 x y v u Q I2 rx ry q) hm
/-- a reading of a value as a test -/
def tTest (t : TE) : TT := fun σ H Q => t σ H fun x H' => ∃ k, x = .bl k ∧ Q k H'
theorem pt_cmpR {op : CmpOp} {r : R2} (ho : OpR X (compareOp op) r) (ha : PE X a ta) (hb : PE X b tb) (hm : behindInMarks op b = false) : PT X (.Compare a [op] [b] pos) (tTest (tOp r ta tb)) := by
  intro pins s σ H Q I h
  refine wpAny_isTrue_Compare1 (thn (ha pins s σ H _ I h) fun v s1 ⟨x, H1, I1, r1, q1⟩ => thn (hb pins s1 σ H1 _ I1 q1) fun u s2 ⟨y, H2, I2, r2, q2⟩ =>
    thn (ho pins s2 σ H2 x y v u _ I2 r1 r2 q2) fun c s3 ⟨z, H3, I3, r3, k, e, q3⟩ => ?_) hm
  subst e
  cases r3
  exact wpAny_truthy_bool ⟨H3, I3, q3⟩
/-- a value's truth by the abstract heap -/
def TruV (K : PySem.W.Frag) (x : V) (H : Hp) (k : Bool) : Prop :=
  match x with
  | .non => k = false
  | .bl b => k = b
  | .int i => k = (i != 0)
  | .str y => y.length ≤ sizeLine ∧ k = ((y.length : Int) != 0)
  | .byt y => y.size ≤ sizeLine ∧ k = ((y.size : Int) != 0)
  | .ref p => (∃ xs, SqL K H p xs ∧ k = !xs.isEmpty) ∨ (∃ xs, SqT K H p xs ∧ k = !xs.isEmpty) ∨ ∃ kvs, H p = some (.dK kvs) ∧ k = !kvs.isEmpty
  | _ => False
theorem isEmpty_kv {κ : Type} {kvs : List (κ × V)} {vs : List (κ × Value)} (r : KV kvs vs) : (!vs.isEmpty) = !kvs.isEmpty := by
  cases r <;> rfl
theorem isEmpty_of {xs : List V} {its : List Value} (r : Vals xs its) : (!its.toArray.isEmpty) = !xs.isEmpty := by
  cases r <;> simp
theorem line63 : (sizeLine : Nat) < 2 ^ 63 := by rw [sizeLine_eq]; decide
theorem tru_ok : TruR X (fun x H Q => ∃ k, TruV X.K x H k ∧ Q k H) := by
  intro pins s σ H x v Q I rx h
  obtain ⟨k, e, q⟩ := h
  have hl := line63
  have hs : sizeLine = 16777216 := sizeLine_eq
  cases x with
  | non =>
    cases rx
    have e' : k = false := e
    subst e'
    exact truthy_none ⟨H, I, q⟩
  | bl b =>
    cases rx
    have e' : k = b := e
    subst e'
    exact wpAny_truthy_bool ⟨H, I, q⟩
  | int i =>
    obtain ⟨t, rfl⟩ := rx
    have e' : k = (i != 0) := e
    subst e'
    exact PySem.P.truthy_int ⟨H, I, q⟩
  | str y =>
    obtain ⟨t, rfl⟩ := rx
    obtain ⟨hy, e'⟩ : y.length ≤ sizeLine ∧ k = ((y.length : Int) != 0) := e
    subst e'
    exact PySem.P.truthy_str (by omega) ⟨H, I.tok _, q⟩
  | byt y =>
    obtain ⟨t, rfl⟩ := rx
    obtain ⟨hy, e'⟩ : y.size ≤ sizeLine ∧ k = ((y.size : Int) != 0) := e
    subst e'
    exact PySem.W.truthy_bytes (by omega) ⟨H, I.tok _, q⟩
  | ref p =>
    cases rx
    have e' : (∃ xs, SqL X.K H p xs ∧ k = !xs.isEmpty) ∨ (∃ xs, SqT X.K H p xs ∧ k = !xs.isEmpty) ∨ ∃ kvs, H p = some (.dK kvs) ∧ k = !kvs.isEmpty := e
    rcases e' with ⟨xs, hx, e'⟩ | ⟨xs, hx, e'⟩ | ⟨kvs, hx, e'⟩
    · subst e'
      obtain ⟨its, r, pl, hz⟩ := I.list hx
      have hlen := r.length
      exact wpAny_truthy_list pl.isList (by simp only [List.size_toArray]; omega) ⟨H, I.tok _, by rw [isEmpty_of r]; exact q⟩
    · subst e'
      obtain ⟨its, r, pl, hz⟩ := I.tuple hx
      have hlen := r.length
      exact truthy_tuple pl (by simp only [List.size_toArray]; omega) ⟨H, I.tok _, by rw [isEmpty_of r]; exact q⟩
    · subst e'
      obtain ⟨hz, hS, vs, r, m⟩ : kvs.length ≤ sizeLine ∧ (p == sysModules) = false ∧ ∃ vs, KV kvs vs ∧ s.heap.DictOf (mixKind X.prog X.w) p vs := I.hok p _ hx
      have hlen : kvs.length = vs.length := Paired.length r
      exact wpAny_truthy_dict hS m (by omega) ⟨H, I.tok _, by rw [isEmpty_kv r]; exact q⟩
  | _ => exact (show False from e).elim
/-- any expression whose test is its value's truth (a name, a call, a subscript, a field ..: he by fun _ => rfl) -/
theorem pt_truth (ha : PE X a ta) (he : ∀ whole, isTrue a X.env whole = (do let v ← whole; standAt a.pos; holding [v] (truthy v))) :
    PT X a (fun σ H Q => ta σ H fun x H' => ∃ k, TruV X.K x H' k ∧ Q k H') := by
  intro pins s σ H Q I h
  exact isTrue_plain (thn (ha pins s σ H _ I h) fun v s1 ⟨x, H1, I1, r1, q1⟩ => tru_ok pins s1 σ H1 x v Q I1 r1 q1) (he _)

theorem op_add_str : OpR X (binaryOp .Add) (fun x y H Q => ∃ i j, x = .str i ∧ y = .str j ∧ i.length + j.length ≤ sizeLine ∧ Q (.str (i ++ j)) H) := by
  intro pins s σ H x y v u Q I rx ry h
  obtain ⟨i, j, rfl, rfl, hz, q⟩ := h
  obtain ⟨t, rfl⟩ := rx
  obtain ⟨t', rfl⟩ := ry
  exact add_str (fun t' tk => ⟨.str (i ++ j), H, I.tok _, ⟨_, rfl⟩, q⟩) hz
theorem vals1 {x : V} {us : List Value} (r : Vals [x] us) : ∃ u, us = [u] ∧ RelV x u := by
  cases r with
  | cons r1 r2 => cases r2; exact ⟨_, rfl, r1⟩
theorem vals2 {x y : V} {us : List Value} (r : Vals [x, y] us) : ∃ u w', us = [u, w'] ∧ RelV x u ∧ RelV y w' := by
  cases r with
  | cons r1 r2 =>
    cases r2 with
    | cons r3 r4 => cases r4; exact ⟨_, _, rfl, r1, r3⟩
end
end L2

namespace L2
open PySem PySem.Spec PyProof.Rows

structure ObjM (h : Heap) (x dx C : Addr) (mA : Str → Option Value) : Prop where
  obj : h.get? x = some (PySem.W.instObj C dx)
  ns : h.Ns1 dx mA
  ne : dx ≠ x

theorem lookIn_ns {h : Heap} {dx : Addr} {mA : Str → Option Value} (n : h.Ns1 dx mA) : ∃ od, h.get? dx = some od ∧ ∀ name, PySem.W.lookIn name od = some (mA name) := by
  obtain ⟨o, es, ep, ho, hd, hk, _, hm⟩ := n
  refine ⟨o, ho, fun name => ?_⟩
  have e := hm name
  unfold nsFind findBy at e
  rw [← Array.find?_toList] at e
  unfold PySem.W.lookIn
  rw [hd]
  dsimp only
  split
  · rename_i y q
    rw [q] at e
    exact congrArg some e
  · rename_i q
    rw [q] at e
    have a : es.toList.any (·.refKey) = false := by
      rw [List.any_eq_false]
      intro y hy
      obtain ⟨z, t, hkey⟩ := hk y (Array.mem_toList_iff.mp hy)
      simp [DictEntry.refKey, hkey]
    have a' : ¬ es.toList.any (·.refKey) = true := by rw [a]; exact Bool.false_ne_true
    rw [if_neg a']
    exact congrArg some e

theorem ObjM.look {h : Heap} {x dx C : Addr} {mA : Str → Option Value} (I : ObjM h x dx C mA) : ∃ od, PySem.W.InstAt h x (PySem.W.instObj C dx) C (some od) ∧ ∀ name, PySem.W.lookIn name od = some (mA name) :=
  let ⟨od, ho, hl⟩ := lookIn_ns I.ns
  ⟨od, ⟨I.obj, rfl, rfl, ho⟩, hl⟩

section
variable {prog : Program} {w : World} {A : Around} {E : Value → Shared → Prop} {s : Shared} {K : PySem.W.Frag} {x dx C f : Addr} {mA : Str → Option Value} {name : Str} {v : Value}

end

section
variable {P : Program} {w : World} {H H' : Hp} {h h' : Heap} {a C dx : Addr} {fs fs' : List (Str × V)}
theorem ins_get (hok : HOk P w H h) (e : H a = some (.ins C dx fs)) : ∃ mA, ObjM h a dx C mA ∧ (∀ f, RelO (fs.lookup f) (mA f)) ∧ PySem.Within mA (fs.map (·.1)) ∧ fs.length ≤ 1000 ∧ H dx = some (.own a) := by
  obtain ⟨d, z, ne, ob, mA, n, r, q⟩ := (show ObjOk P w H h a (.ins C dx fs) from hok a _ e)
  exact ⟨mA, ⟨ob, n, ne⟩, r, q, z, d⟩
end

structure Cls (K : PySem.W.Frag) (C : Addr) : Prop where
  pg : PySem.W.plainGet K C Str.empty = true
  hd : PySem.W.hasDictIn K C = true
  po : PySem.W.plainOver K C = true
  sa : PySem.W.findIn K (.ref C) "__setattr__" = some (some (.builtin "object.__setattr__"))
theorem Cls.get {K : PySem.W.Frag} {C : Addr} (c : Cls K C) (f : Str) : PySem.W.plainGet K C f = true := c.pg
/-- a constant of the class -/
structure Con (K : PySem.W.Frag) (C : Addr) (f : Str) (v : V) (u : Value) : Prop where
  at_ : PySem.W.findIn K (.ref C) f = some (some u)
  rel : RelV v u
  get : PySem.W.specialIn K u "__get__" = some none
  cp : PySem.W.copiedNames.contains f = false
/-- a method: a plain def of the class or of one above it -/
structure Meth (K : PySem.W.Frag) (C : Addr) (m : Str) (f : Addr) : Prop where
  at_ : PySem.W.findIn K (.ref C) m = some (some (.ref f))
  fn : PySem.W.isFn K (.ref f) = true
  kp : PySem.W.keepIn K (.ref f) = true

section
variable {X : Cx} {pins : List (Addr × Obj)} {σ : St} {H : Hp} {s : Shared} {a C dx : Addr} {fs : List (Str × V)} {f : Str} {v : V} {A : Around} {E : Value → Shared → Prop}

/-- a new instance, tracked, without attributes -/
theorem Inv.made (I : Inv X pins σ H s) : Inv X pins σ (upd (upd H s.heap.objs.size (.own (s.heap.objs.size + 1))) (s.heap.objs.size + 1) (.ins C s.heap.objs.size []))
    { s with heap := (s.heap.push PySem.W.emptyDict).push (PySem.W.instObj C s.heap.objs.size) } := by
  have e1 : (s.heap.push PySem.W.emptyDict).get? s.heap.objs.size = some PySem.W.emptyDict := Heap.get?_push_size s.heap rfl
  have e2 : ((s.heap.push PySem.W.emptyDict).push (PySem.W.instObj C s.heap.objs.size)).get? (s.heap.objs.size + 1) = some (PySem.W.instObj C s.heap.objs.size) := by
    have := Heap.get?_push_size (s.heap.push PySem.W.emptyDict) (o := PySem.W.instObj C s.heap.objs.size) rfl
    rwa [Heap.size_push] at this
  have e3 : (s.heap.push PySem.W.emptyDict).Ns s.heap.objs.size (fun _ => none) := ⟨PySem.W.emptyDict, #[], _, e1, rfl, (fun e he => absurd he (by simp)), fun _ => rfl⟩
  have I1 := I.laid (a := s.heap.objs.size) (o := .own (s.heap.objs.size + 1)) (h' := s.heap.push PySem.W.emptyDict) (t' := s.toks) (fun b u q => Heap.get?_push_of_some _ q) (Nat.le_refl _) ⟨_, e1⟩
  refine I1.laid (a := s.heap.objs.size + 1) (o := .ins C s.heap.objs.size []) (t' := s.toks) (fun b u q => Heap.get?_push_of_some _ q) (Nat.le_of_eq (Heap.size_push _ _)) ?_
  have ne : s.heap.objs.size ≠ s.heap.objs.size + 1 := Nat.ne_of_lt (Nat.lt_succ_self _)
  refine ⟨by rw [upd_ne ne, upd_same], Nat.zero_le _, ne, e2, fun _ => none, (Heap.Ns1.of_empty e3).at fun o q => Heap.get?_push_of_some _ q, fun _ => True.intro, fun y hy => absurd rfl hy⟩

end

section
variable {X : Cx} {o e value : Expr} {f : Str} {pos pos' tpos : Pos} {ta tv : TE}
end

section
variable {X : Cx} {pins : List (Addr × Obj)} {σ : St} {H : Hp} {s : Shared} {A : Around} {E : Value → Shared → Prop} {Q : Value → Shared → Prop} {c : Value} {b : Bool}
/-- the type of a value, as the fragment's deciders take it; for an instance its class -/
inductive TyOf (K : PySem.W.Frag) (H : Hp) : V → Value → Prop where
  | non : TyOf K H .non (.type "NoneType")
  | bl (x : Bool) : TyOf K H (.bl x) (.type "bool")
  | int (i : Int) : TyOf K H (.int i) (.type "int")
  | str (x : Str) : TyOf K H (.str x) (.type "str")
  | flt (x : UInt64) : TyOf K H (.flt x) (.type "float")
  | lst {a : Addr} {xs : List V} (e : H a = some (.lst xs)) : TyOf K H (.ref a) (.type "list")
  | frz {a : Addr} {o : Obj} {xs : List V} (e : H a = some (.frz o (.lst xs))) : TyOf K H (.ref a) (.type "list")
  | tup {a : Addr} {xs : List V} (e : H a = some (.tup xs)) : TyOf K H (.ref a) (.type "tuple")
  | dK {a : Addr} {kvs : List (Key × V)} (e : H a = some (.dK kvs)) : TyOf K H (.ref a) (.type "dict")
  | dT {a : Addr} {kvs : List (List Key × V)} (e : H a = some (.dT kvs)) : TyOf K H (.ref a) (.type "dict")
  | ins {a C dx : Addr} {fs : List (Str × V)} (e : H a = some (.ins C dx fs)) (cl : Cls K C) (ha : PySem.W.findIn K (.ref C) "__class__" = some (some (.builtin "object.__class__")))
      (hn : PySem.W.specialIn K (.builtin "object.__class__") "__get__" = some (some (.builtin "getset_descriptor.__get__"))) (htk : PySem.W.takesIn K (.builtin "object.__class__") = some true)
      (hm : PySem.W.mroIn K C (.type "object") = some true) : TyOf K H (.ref a) (.ref C)
/-- isinstance(x, c) for one class c, a built-in or an own one: kitOne's answer -/
theorem isinst_ok {x : V} {u t : Value} (I : Inv X pins σ H s) (rx : RelV x u) (ty : TyOf X.K H x t) (e : PySem.W.kitOne X.K t c = some b) (h : ∀ tk, Q (.bool b) { s with toks := tk }) :
    wpAny (model X.prog X.w) A (call (.builtin "isinstance") [u, c]) Q E s := by
  cases ty with
  | non => cases (show u = Value.none from rx); exact PySem.W.kia_one PySem.W.kitx_none I.kIn True.intro e (fun z => nomatch z) h
  | bl y => cases (show u = Value.bool y from rx); exact PySem.W.kia_one PySem.W.kitx_bool I.kIn True.intro e (fun z => nomatch z) h
  | int i => obtain ⟨t, q⟩ := (show ∃ t, u = Value.int i t from rx); cases q; exact PySem.W.kia_one PySem.W.kitx_int I.kIn True.intro e (fun z => nomatch z) h
  | str y => obtain ⟨t, q⟩ := (show ∃ t, u = Value.str y t from rx); cases q; exact PySem.W.kia_one PySem.W.kitx_str I.kIn True.intro e (fun z => nomatch z) h
  | flt y => obtain ⟨t, q⟩ := (show ∃ t, u = Value.float y t from rx); cases q; exact PySem.W.kia_one PySem.W.kitx_float I.kIn True.intro e (fun z => nomatch z) h
  | @lst a xs ea =>
    cases (show u = Value.ref a from rx)
    obtain ⟨_, _, n, _, h1⟩ := (show ObjOk X.prog X.w H s.heap a (.lst xs) from I.hok a _ ea)
    exact PySem.W.kia_one PySem.W.kitx_list I.kIn ⟨_, h1, rfl⟩ e (fun z => nomatch z) h
  | @frz a ob xs ea =>
    cases (show u = Value.ref a from rx)
    obtain ⟨_, _, _, n, _, h1⟩ := (show ObjOk X.prog X.w H s.heap a (.frz ob (.lst xs)) from I.hok a _ ea)
    exact PySem.W.kia_one PySem.W.kitx_list I.kIn ⟨_, h1, rfl⟩ e (fun z => nomatch z) h
  | @tup a xs ea =>
    cases (show u = Value.ref a from rx)
    obtain ⟨_, _, _, p⟩ := (show ObjOk X.prog X.w H s.heap a (.tup xs) from I.hok a _ ea)
    obtain ⟨o, h1, h2, _⟩ := p
    exact PySem.W.kia_one PySem.W.kitx_tuple I.kIn ⟨o, h1, h2⟩ e (fun z => nomatch z) h
  | @dK a kvs ea =>
    cases (show u = Value.ref a from rx)
    obtain ⟨_, _, vs, _, p⟩ := (show ObjOk X.prog X.w H s.heap a (.dK kvs) from I.hok a _ ea)
    obtain ⟨o, es, ep, h1, h2, _⟩ := p
    exact PySem.W.kia_one PySem.W.kitx_dict I.kIn ⟨o, h1, h2.1⟩ e (fun z => nomatch z) h
  | @dT a kvs ea =>
    cases (show u = Value.ref a from rx)
    obtain ⟨_, _, xs, _, o, es, ep, h1, h2, _⟩ := (show ObjOk X.prog X.w H s.heap a (.dT kvs) from I.hok a _ ea)
    exact PySem.W.kia_one PySem.W.kitx_dict I.kIn ⟨o, h1, h2.1⟩ e (fun z => nomatch z) h
  | @ins a C dx fs ea cl ha hn htk hm =>
    cases (show u = Value.ref a from rx)
    obtain ⟨mA, O, _⟩ := ins_get I.hok ea
    obtain ⟨od, J, _⟩ := O.look
    exact PySem.W.kia_one (PySem.W.kitx_own (cl.get _) cl.hd ha hn htk hm) I.kIn J e (fun z => nomatch z) h
end
end L2

namespace L2
open PySem PySem.Spec PyProof.Rows

structure Room (k : Nat) (A : Around) : Prop where
  hd : A.handled = none
  dp : A.depth + 3 * k + 5 < recursionLimit
  un : A.units + 16 * k + 200 < cLine
theorem Room.mono {j k : Nat} {A : Around} (r : Room k A) (h : j ≤ k) : Room j A := ⟨r.hd, by have := r.dp; omega, by have := r.un; omega⟩
theorem Room.deeper {k : Nat} {A : Around} (r : Room (k + 1) A) (env : Env) : Room k (A.deeper env) :=
  ⟨r.hd, by have := r.dp; show A.depth + 1 + 3 * k + 5 < _; omega, by have := r.un; show A.units + 3 + 16 * k + 200 < _; omega⟩
theorem Room.in1 {k : Nat} {A : Around} (r : Room (k + 1) A) : Room k A.in1 :=
  ⟨r.hd, by have := r.dp; show A.depth + 3 * k + 5 < _; omega, by have := r.un; show A.units + 1 + 16 * k + 200 < _; omega⟩
theorem Room.depth {k : Nat} {A : Around} (r : Room k A) : A.depth < recursionLimit := by have := r.dp; omega
theorem Room.units {k : Nat} {A : Around} (r : Room k A) : A.units + 64 < cLine := by have := r.un; omega
theorem Room.units0 {k : Nat} {A : Around} (r : Room k A) : A.units < cLine := by have := r.un; omega

def tNil : TA := fun _ H Q => Q [] H
def tCons (ta : TE) (tr : TA) : TA := fun σ H Q => ta σ H fun x H1 => tr σ H1 fun xs H2 => Q (x :: xs) H2
section
variable {X : Cx} {e : Expr} {es : List Expr} {te : TE} {t : TA} {pos : Pos}
theorem pa_nil : PA X [] tNil := fun _ _ _ _ H Q I h => Calls.spliced_nil ⟨[], H, I, .nil, h⟩
theorem pa_cons (ha : PE X e te) (hr : PA X es t) (hs : starEach (e :: es) X.env = (false, eval e X.env) :: starEach es X.env := by rfl) : PA X (e :: es) (tCons te t) := by
  intro pos pins s σ H Q I h
  rw [hs]
  show wpAny _ _ (spliced ((false, eval e X.env) :: backTo pos (starEach es X.env))) _ _ s
  refine Calls.spliced_cons (thn (ha pins s σ H _ I h) fun u s1 ⟨x, H1, I1, r1, q1⟩ => ?_)
  exact thn (hr pos pins s1 σ H1 _ I1 q1) fun us s2 ⟨xs, H2, I2, r2, q2⟩ => ⟨x :: xs, H2, I2, .cons r1 r2, q2⟩

/-- a tuple, a list of written items -/
def tTup (t : TA) : TE := fun σ H Q => t σ H fun xs H1 => xs.length ≤ sizeLine ∧ ∀ p, H1 p = none → Q (.ref p) (upd H1 p (.tup xs))
def tLst (t : TA) : TE := fun σ H Q => t σ H fun xs H1 => xs.length ≤ sizeLine ∧ ∀ p, H1 p = none → Q (.ref p) (upd H1 p (.lst xs))
theorem pe_tup {x1} (h : PA X es t) : PE X (.Tuple es x1 pos) (tTup t) := by
  intro pins s σ H Q I hq
  refine wpAny_Tuple_spliced (thn (h pos pins s σ H _ I hq) fun us s1 ⟨xs, H1, I1, r, z, q⟩ => ⟨by rw [← r.length]; exact z, ?_⟩)
  have hf : H1 s1.heap.objs.size = none := I1.hok.fresh (Nat.le_refl _)
  refine ⟨.ref s1.heap.objs.size, upd H1 s1.heap.objs.size (.tup xs), I1.laid (t' := s1.toks) (fun b u e => Heap.get?_push_of_some _ e) (Nat.le_refl _) ?_, rfl, q _ hf⟩
  exact ⟨z, us, r, ⟨_, Heap.get?_push_size _ rfl, rfl, _, rfl⟩⟩
theorem pe_lst (h : PA X es t) : PE X (.List es pos) (tLst t) := by
  intro pins s σ H Q I hq
  refine wpAny_List_spliced (thn (h pos pins s σ H _ I hq) fun us s1 ⟨xs, H1, I1, r, z, q⟩ => ⟨by rw [← r.length]; exact z, ?_⟩)
  have hf : H1 s1.heap.objs.size = none := I1.hok.fresh (Nat.le_refl _)
  refine ⟨.ref s1.heap.objs.size, upd H1 s1.heap.objs.size (.lst xs), I1.laid (t' := s1.toks) (fun b u e => Heap.get?_push_of_some _ e) (Nat.le_refl _) ?_, rfl, q _ hf⟩
  exact ⟨z, us, 0, r, Heap.get?_push_size _ rfl⟩
end

/-- a def's promise: the bound arguments in the parameters' order, the heap, the wanted end, the wanted exception -/
abbrev Sp := List V → Hp → VK → XK → Prop
/-- how an exception lies behind a call (file 08 gives it): the callers' frames, abstract heap and state ahead of the call, the wish, the exception, the state -/
abbrev CXT := List Env → Hp → Shared → XK → Value → Shared → Prop

/-- the state at a call -/
structure Env0 (P : Program) (w : World) (K : PySem.W.Frag) (mg : Str → Option Value) (base : Heap) (A : Around) (outer : List Env) (s : Shared) (H : Hp) : Prop where
  frames : A.frames = some outer
  mod : Mod K mg base
  bs : ∀ b o, base.get? b = some o → s.heap.get? b = some o ∧ H b = none
  bsz : base.objs.size ≤ s.heap.objs.size
  funs : s.heap.FunFrames base outer
  frf : ∀ b ∈ frs outer, H b = none
  hok : HOk P w H s.heap
  bare : AllBare s.gens
/-- a call's end -/
def CE (outer : List Env) (P : Program) (w : World) (H : Hp) (s : Shared) (Q : VK) (u : Value) (s' : Shared) : Prop :=
  ∃ v H', s'.os = s.os ∧ AllBare s'.gens ∧ Un (frs outer) [] H H' s.heap s'.heap ∧ HOk P w H' s'.heap ∧ RelV v u ∧ Q v H'
def CR (CX : CXT) (outer : List Env) (P : Program) (w : World) (H : Hp) (s : Shared) (Q : VK) (E : XK) (r : Result) (s' : Shared) : Prop :=
  match r with
  | .ok (.ret u) => CE outer P w H s Q u s'
  | .ok _ => False
  | .error e => CX outer H s E e s'
structure FnOk (P : Program) (w : World) (K : PySem.W.Frag) (mg : Str → Option Value) (base : Heap) (CX : CXT) (k : Nat) (f : Addr) (fd : FuncData) (ps : List Str) (sp : Sp) : Prop where
  len : ∀ vs H Q E, sp vs H Q E → vs.length = ps.length
  run : ∀ (A : Around) (outer : List Env) (s : Shared) (H : Hp) (args : Args) (us : List Value) (vs : List V) (Q : VK) (E : XK), Room k A → Env0 P w K mg base A outer s H → BindsTo s fd args (ps.zip us) → Vals vs us → sp vs H Q E →
    codeAny (model P w) A (.call (.ref f) args) (CR CX outer P w H s Q E) s
theorem FnOk.mono {P : Program} {w : World} {K : PySem.W.Frag} {mg : Str → Option Value} {base : Heap} {CX : CXT} {j k : Nat} {f : Addr} {fd : FuncData} {ps : List Str} {sp : Sp} (F : FnOk P w K mg base CX j f fd ps sp) (h : j ≤ k) :
    FnOk P w K mg base CX k f fd ps sp := ⟨F.len, fun A outer s H args us vs Q E hr => F.run A outer s H args us vs Q E (hr.mono h)⟩
/-- a weaker promise -/
theorem FnOk.imp {P : Program} {w : World} {K : PySem.W.Frag} {mg : Str → Option Value} {base : Heap} {CX : CXT} {k : Nat} {f : Addr} {fd : FuncData} {ps : List Str} {sp sp' : Sp} (F : FnOk P w K mg base CX k f fd ps sp)
    (h : ∀ vs H Q E, sp' vs H Q E → sp vs H Q E) : FnOk P w K mg base CX k f fd ps sp' :=
  ⟨fun vs H Q E q => F.len vs H Q E (h _ _ _ _ q), fun A outer s H args us vs Q E hr he hb hv hs => F.run A outer s H args us vs Q E hr he hb hv (h _ _ _ _ hs)⟩

theorem Env0.in1 {P : Program} {w : World} {K : PySem.W.Frag} {mg : Str → Option Value} {base : Heap} {A : Around} {outer : List Env} {s : Shared} {H : Hp} (e : Env0 P w K mg base A outer s H) :
    Env0 P w K mg base A.in1 outer s H := ⟨e.frames, e.mod, e.bs, e.bsz, e.funs, e.frf, e.hok, e.bare⟩

section
variable {X : Cx} {pins : List (Addr × Obj)} {σ : St} {H : Hp} {s s' : Shared}
/-- from a body: what a callee wants -/
theorem Inv.env0 (I : Inv X pins σ H s) : Env0 X.prog X.w X.K X.mg X.base X.A X.stack s H :=
  ⟨I.ok.frames, I.ok.mod, I.bs, Nat.le_trans I.ok.bsz I.sz, I.stack, I.stkFree, I.hok, I.bare⟩
/-- behind a call -/
theorem Inv.after {Q : VK} {u : Value} (I : Inv X pins σ H s) (h : CE X.stack X.prog X.w H s Q u s') : EP X pins σ Q u s' := by
  obtain ⟨v, H', os, bare, un, hok, r, q⟩ := h
  obtain ⟨hh, g, d, t, os'⟩ := s'
  obtain rfl : os' = s.os := os
  exact ⟨v, H', I.call (h' := hh) (g' := g) (d' := d) (t' := t) (ch := []) un hok bare (fun b z => absurd z (by simp)), r, q⟩
end

/-- f(..): the written arguments, then the defaults dvs; E: what is wanted of an exception -/
def tCall (sp : Sp) (dvs : List V) (E : XK) (t : TA) : TE := fun σ H Q => t σ H fun vs H1 => sp (vs ++ dvs) H1 Q E
/-- how the parameters are bound: us the positional arguments, kw the keywords' values by name, ds the defaults that fill up -/
def Binds (K : PySem.W.Frag) (fd : FuncData) (ps : List Str) (ds : List Value) : Prop :=
  ∀ (s : Shared) (us : List Value), K.In s.heap → (us ++ ds).length = ps.length → BindsTo s fd ⟨us, []⟩ (ps.zip (us ++ ds))
/-- every parameter is given -/
theorem Binds.all {K : PySem.W.Frag} {fd : FuncData} {ps : List Str} (h : ∀ us : List Value, us.length = ps.length → bindArgs fd ⟨us, []⟩ = pure (ps.zip us)) : Binds K fd ps [] := fun s us _ hl => by
  rw [List.append_nil] at hl ⊢
  exact .of_eq (h us hl)

/-- an exception of a callee reaches what this body wants of exceptions -/
def Passes (CX : CXT) (X : Cx) (E : XK) : Prop := ∀ (pins : List (Addr × Obj)) (σ : St) (H : Hp) (s : Shared) (e : Value) (s' : Shared), Inv X pins σ H s → CX X.stack H s E e s' → X.xe e s'

section
variable {X : Cx} {CX : CXT} {k : Nat} {f C : Addr} {fd : FuncData} {ps : List Str} {sp : Sp} {dvs : List V} {ds : List Value} {E : XK} {x m : Str} {p pos apos : Pos} {e o : Expr} {es : List Expr} {ta : TE} {t : TA}

/-- the callee runs -/
theorem run_fn {pins : List (Addr × Obj)} {σ : St} {H : Hp} {s : Shared} {Q : VK} {us : List Value} {vs : List V} (F : FnOk X.prog X.w X.K X.mg X.base CX k f fd ps sp) (hr : Room k X.A) (hb : Binds X.K fd ps ds) (hd : Vals dvs ds) (hx : Passes CX X E)
    (I : Inv X pins σ H s) (r : Vals vs us) (h : sp (vs ++ dvs) H Q E) : wpAny (model X.prog X.w) X.A (call (.ref f) us) (EP X pins σ Q) X.xe s := by
  have r2 : Vals (vs ++ dvs) (us ++ ds) := r.append hd
  have hl : (us ++ ds).length = ps.length := by rw [← r2.length]; exact F.len _ _ _ _ h
  refine wpAny_call (codeAny_mono (F.run X.A X.stack s H ⟨us, []⟩ (us ++ ds) (vs ++ dvs) Q E hr I.env0 (hb s us I.kIn hl) r2 h) fun r s' hq => ?_)
  cases r with
  | error e => exact hx pins σ H s e s' I hq
  | ok fl =>
    cases fl with
    | ret u => exact I.after hq
    | next => exact False.elim hq
    | brk => exact False.elim hq
    | cont => exact False.elim hq

theorem pe_call (F : FnOk X.prog X.w X.K X.mg X.base CX k f fd ps sp) (hr : Room k X.A) (hg : Gl X x) (hm : X.mg x = some (.ref f)) (hk : PySem.W.keepIn X.K (.ref f) = true) (hb : Binds X.K fd ps ds) (hd : Vals dvs ds) (hx : Passes CX X E)
    (ha : PA X (e :: es) t) (hdb : (x == ("__debug__" : Str)) = false := by decide) (he : starEach (e :: es) X.env = (false, eval e X.env) :: starEach es X.env := by rfl) (hpl : (backTo pos (starEach es X.env)).any (·.1) = false := by rfl) :
    PE X (.Call (.Name x p) (e :: es) [] pos) (tCall sp dvs E t) := by
  intro pins s σ H Q I h
  refine wpAny_Call_Name_kw (ld_glob I hg hm ?_ hdb)
  refine PySem.W.callWith_K (h₀ := X.base) I.ok.mod.kin hk (thn (ha pos pins s σ H _ I h) fun us s1 ⟨vs, H1, I1, r, q⟩ => ⟨I1.kIn, ?_⟩) he hpl
  exact run_fn F hr hb hd hx I1 r q
/-- what a class must have to be made -/
structure Mk (K : PySem.W.Frag) (C f : Addr) : Prop where
  makes : PySem.W.makesIn K C = true
  init : PySem.W.findIn K (.ref C) "__init__" = some (some (.ref f))
  fn : PySem.W.isFn K (.ref f) = true
  kp : PySem.W.keepIn K (.ref C) = true

end

section
variable {X : Cx} {CX : CXT} {k : Nat} {f C : Addr} {fd : FuncData} {ps ks : List Str} {sp : Sp} {E : XK} {x m : Str} {p pos apos kpos : Pos} {e o : Expr} {es : List Expr} {kws : List Keyword} {te ta : TE} {t tk : TA} {nm : Option Str}
/-- how a call with keywords binds: g puts the positional values us and the keywords' values ws (names ks) in the parameters' order, defaults among them -/
structure KBinds (K : PySem.W.Frag) (fd : FuncData) (ps ks : List Str) (g : List Value → List Value → List Value) (gV : List V → List V → List V) : Prop where
  to : ∀ (s : Shared) (us ws : List Value), K.In s.heap → (g us ws).length = ps.length → BindsTo s fd ⟨us, ks.zip ws⟩ (ps.zip (g us ws))
  rel : ∀ {vs : List V} {us : List Value} {zs : List V} {ws : List Value}, Vals vs us → Vals zs ws → Vals (gV vs zs) (g us ws)
variable {g : List Value → List Value → List Value} {gV : List V → List V → List V}
end

/-- names: the parameters first -/
structure FnScope (N P : List Str) (sc : Scope) : Prop where
  kind : sc.kind = .function
  co : sc.isCoroutine = false
  gen : sc.isGenerator = false
  nd : N.Nodup
  pre : N.take P.length = P
  par : ∀ x ∈ P, sc.names.lookup x = some .local ∨ sc.names.lookup x = some .cell
  nofree : ∀ y ∈ sc.names, y.2 ≠ .free

theorem bindL_out {kindOf : Str → Option NameKind} {x : Str} : ∀ {binds : List (Str × Value)} {m : Str → Option Value}, (∀ v, (x, v) ∉ binds) → bindL kindOf binds m x = m x
  | [], _, _ => rfl
  | (n, v) :: r, m, h => by
    unfold bindL
    rw [bindL_out fun w hw => h w (List.mem_cons_of_mem _ hw)]
    split
    · have : x ≠ n := by rintro rfl; exact h v List.mem_cons_self
      simp [this]
    · rfl
theorem bindC_out {kindOf : Str → Option NameKind} {x : Str} : ∀ {binds : List (Str × Value)} {m : Str → Option Value}, (∀ v, (x, v) ∉ binds) → bindC kindOf binds m x = m x
  | [], _, _ => rfl
  | (n, v) :: r, m, h => by
    unfold bindC
    rw [bindC_out fun w hw => h w (List.mem_cons_of_mem _ hw)]
    split
    · rfl
    · have : x ≠ n := by rintro rfl; exact h v List.mem_cons_self
      simp [this]
theorem bindL_get {kindOf : Str → Option NameKind} {x : Str} {v : Value} : ∀ {P : List Str} {vs : List Value} {i : Nat} {m : Str → Option Value}, P.Nodup → P[i]? = some x → vs[i]? = some v → kindOf x = some .local →
    bindL kindOf (P.zip vs) m x = some v
  | [], _, _, _, _, h, _, _ => by simp at h
  | _ :: _, [], _, _, _, _, h, _ => by simp at h
  | p :: P, w :: vs, 0, m, nd, h1, h2, hk => by
    simp at h1 h2; subst h1; subst h2
    show bindL kindOf ((p, w) :: P.zip vs) m p = _
    unfold bindL
    rw [bindL_out fun v hv => (List.nodup_cons.mp nd).1 (List.of_mem_zip hv).1, if_pos hk]
    simp
  | p :: P, w :: vs, i + 1, m, nd, h1, h2, hk => by
    show bindL kindOf ((p, w) :: P.zip vs) m x = _
    unfold bindL
    exact bindL_get (i := i) (List.nodup_cons.mp nd).2 (by simpa using h1) (by simpa using h2) hk
theorem bindC_get {kindOf : Str → Option NameKind} {x : Str} {v : Value} : ∀ {P : List Str} {vs : List Value} {i : Nat} {m : Str → Option Value}, P.Nodup → P[i]? = some x → vs[i]? = some v → kindOf x ≠ some .local →
    bindC kindOf (P.zip vs) m x = some v
  | [], _, _, _, _, h, _, _ => by simp at h
  | _ :: _, [], _, _, _, _, h, _ => by simp at h
  | p :: P, w :: vs, 0, m, nd, h1, h2, hk => by
    simp at h1 h2; subst h1; subst h2
    show bindC kindOf ((p, w) :: P.zip vs) m p = _
    unfold bindC
    rw [bindC_out fun v hv => (List.nodup_cons.mp nd).1 (List.of_mem_zip hv).1, if_neg hk]
    simp
  | p :: P, w :: vs, i + 1, m, nd, h1, h2, hk => by
    show bindC kindOf ((p, w) :: P.zip vs) m x = _
    unfold bindC
    exact bindC_get (i := i) (List.nodup_cons.mp nd).2 (by simpa using h1) (by simpa using h2) hk

/-- the names' values at the entry -/
def start (N : List Str) (vs : List V) : St := vs.map some ++ List.replicate (N.length - vs.length) none

/-- the context of a def's body, at its entry; an exception leaves the frame, then lies as CX says -/
def cxOf (CX : CXT) (P : Program) (w : World) (K : PySem.W.Frag) (mg : Str → Option Value) (base : Heap) (N : List Str) (qual : Str) (scope : Scope) (f : Addr) (cd : Value) (A : Around) (outer : List Env) (s : Shared) (H : Hp) (E : XK) : Cx where
  prog := P
  w := w
  K := K
  mg := mg
  base := base
  A := A.deeper (envOfC qual scope s.heap.objs.size f cd)
  N := N
  s₀ := s
  H₀ := H
  env := envOfC qual scope s.heap.objs.size f cd
  outer := outer
  stack := envOfC qual scope s.heap.objs.size f cd :: outer
  ex := []
  calm := true
  fn := fun _ => true
  pn := []
  xe := fun e s' => wpAny (model P w) (A.deeper (envOfC qual scope s.heap.objs.size f cd)) (leaving (envOfC qual scope s.heap.objs.size f cd) e) (fun _ s'' => CX outer H s E e s'') (fun e' s'' => CX outer H s E e' s'') s'

theorem cell_has {sc : Scope} {n : Nat} {x : Str} (h : sc.names.lookup x = some .cell) : ∃ c, (cellsFrom n sc.names []).lookup x = some c := by
  have q := PySem.W.cellsFrom_some sc.names n [] (.inl h)
  exact Option.isSome_iff_exists.mp q

theorem inv_start {CX : CXT} {P : Program} {w : World} {K : PySem.W.Frag} {mg : Str → Option Value} {base : Heap} {N ps : List Str} {qual : Str} {scope : Scope} {f : Addr} {cd : Value} {A : Around} {outer : List Env} {s s1 : Shared} {H : Hp} {E : XK} {us : List Value} {vs : List V}
    (S : FnScope N ps scope) (hd : A.handled = none) (e0 : Env0 P w K mg base A outer s H) (hl : vs.length = ps.length) (r : Vals vs us)
    (x : InCallC s s.heap.objs.size (bindL (envOfC qual scope s.heap.objs.size f cd).kindOf (ps.zip us) fun _ => none) (cellsFrom (s.heap.objs.size + 1) scope.names []) (bindC (envOfC qual scope s.heap.objs.size f cd).kindOf (ps.zip us) fun _ => none) s1) :
    Inv (cxOf CX P w K mg base N qual scope f cd A outer s H E) [] (start N vs) H s1 := by
  have hpl : ps.length ≤ N.length := by have := congrArg List.length S.pre; rw [List.length_take] at this; omega
  obtain ⟨h1, tk, rfl, hk⟩ := x.done
  have noA : ∀ b : Addr, b ∉ (cxOf CX P w K mg base N qual scope f cd A outer s H E).ex := fun b z => absurd (show b ∈ ([] : List Addr) from z) (by simp)
  refine ⟨⟨e0.mod, S.kind, rfl, rfl, Nat.le_refl _, fun y z c h1 h2 => ?_, fun y hy => ?_, fun y c _ h => ?_, fun _ => hd, Around.frames_deeper e0.frames, .inr ⟨rfl, rfl⟩, fun b z => absurd z (noA b), e0.bs, e0.bsz, fun b _ _ => noA b, fun b z => absurd z (noA b), e0.funs, e0.frf⟩,
    rfl, e0.bare, Un.kept hk, ⟨_, x.toInCall.ns, fun i y v h1 h2 h3 => ?_⟩, fun y c h => ⟨_, x.cell y c h⟩, e0.hok.fresh (Nat.le_refl _), fun y c h => ?_, fun p hp => absurd (show p ∈ ([] : List (Addr × Obj)) from hp) (by simp), e0.hok.kept hk, ?_⟩
  · exact name_of_addr x.apart (PySem.mem_of_lookup h1) (PySem.mem_of_lookup h2)
  · have hy : scope.names.lookup y = some .cell ∨ scope.names.lookup y = some .free := hy
    rcases hy with hy | hy
    · exact cell_has hy
    · exact absurd rfl (S.nofree _ (PySem.mem_of_lookup hy))
  · exact Nat.le_of_lt (x.above y c (PySem.mem_of_lookup h))
  · have hi : i < vs.length := by
      unfold start at h2
      by_cases hi : i < vs.length
      · exact hi
      · rw [List.getElem?_append_right (by simpa using hi)] at h2
        rw [List.getElem?_replicate] at h2
        split at h2 <;> cases h2
    have ha : vs[i]? = some v := by
      unfold start at h2
      rw [List.getElem?_append_left (by simpa using hi), List.getElem?_map] at h2
      cases e : vs[i]? with
      | none => rw [e] at h2; cases h2
      | some a => rw [e] at h2; cases h2; rfl
    obtain ⟨u, hu, rv⟩ := r.get ha
    have hp : ps[i]? = some y := by
      rw [← S.pre, List.getElem?_take_of_lt (by omega)]; exact h1
    have ndP : ps.Nodup := by rw [← S.pre]; exact S.nd.sublist (List.take_sublist _ _)
    refine ⟨u, rv, ?_⟩
    rcases S.par y (List.mem_of_getElem? hp) with k | k
    · exact .inl ⟨k, bindL_get ndP hp hu k⟩
    · obtain ⟨c, e⟩ := cell_has (n := s.heap.objs.size + 1) k
      refine .inr ⟨.inl k, c, e, ?_⟩
      have q := x.cell y c e
      rw [bindC_get ndP hp hu (by show scope.names.lookup y ≠ _; rw [k]; decide)] at q
      exact q
  · exact e0.hok.fresh (Nat.le_of_lt (x.above y c (PySem.mem_of_lookup h)))
  · unfold start
    show _ = N.length
    rw [List.length_append, List.length_map, List.length_replicate]
    omega

/-- THE RULE: a def (or a method) of the text, by its body. The body's reading t is chosen for each entry; it is run at the parameters' values -/
theorem fn_of {CX : CXT} {P : Program} {w : World} {K : PySem.W.Frag} {mg : Str → Option Value} {base : Heap} {k : Nat} {f : Addr} {name qual : Str} {params : Arguments} {body : List Stmt} {scope : Scope} {dV kV doc pm cdv ct oc : Value} {an od : Option Addr}
    {osl : Array (Option Value)} {N ps : List Str} {sp : Sp} (lk : K.lookup f = some ⟨oc, od, .func (PySem.W.fnOf name qual params body scope dV kV doc pm an cdv ct), osl⟩) (hcd : PySem.W.codeIn K cdv qual = true) (S : FnScope N ps scope)
    (len : ∀ vs H Q E, sp vs H Q E → vs.length = ps.length)
    (hbody : ∀ (A : Around) (outer : List Env) (s : Shared) (H : Hp) (vs : List V) (Q : VK) (E : XK), Room k (A.deeper (envOfC qual scope s.heap.objs.size f cdv)) → sp vs H Q E →
      ∃ t, PSs (cxOf CX P w K mg base N qual scope f cdv A outer s H E) body t ∧ t { nx := fun _ H' => Q .non H', rt := Q } (start N vs) H) :
    FnOk P w K mg base CX (k + 1) f (PySem.W.fnOf name qual params body scope dV kV doc pm an cdv ct) ps sp := by
  refine ⟨len, fun A outer s H args us vs Q E hr e0 hb r hsp => ?_⟩
  have hl := len _ _ _ _ hsp
  have KX : K.In s.heap := e0.mod.kin.keeps fun b o e => (e0.bs b o e).1
  have lim : s.heap.NoLimit := e0.mod.nolimit.keeps fun b o e => (e0.bs b o e).1
  have hkind : ∀ y ∈ ps.zip us, scope.names.lookup y.1 = some .local ∨ (scope.names.lookup y.1 = some .cell ∧ ((cellsFrom (s.heap.objs.size + 1) scope.names []).lookup y.1).isSome = true) := fun ⟨n, v⟩ hy => by
    rcases S.par n (List.of_mem_zip hy).1 with q | q
    · exact .inl q
    · exact .inr ⟨q, PySem.W.cellsFrom_some _ _ _ (.inl q)⟩
  refine codeAny_call_function hr.depth (KX _ _ lk) rfl S.co S.gen rfl (PySem.W.codeRec_of KX hcd) (hb _ _ _ _ ?_)
  refine wpAny_newFunctionEnv_cells S.kind hkind fun env he s1 x => ?_
  subst he
  refine ⟨lim.keeps x.toInCall.keep, codeAny_func ?_⟩
  obtain ⟨t, ht, hq⟩ := hbody A outer s H vs Q E (hr.deeper _) hsp
  have I : Inv (cxOf CX P w K mg base N qual scope f cdv A outer s H E) [] (start N vs) H s1 := inv_start S hr.hd e0 hl r x
  refine wpAny_mono (ht [] s1 (start N vs) H _ I hq) (fun fl s' hs => ?_) fun e s' hs => hs
  have fin : ∀ {σ' : St} {H' : Hp} {v : V} {u : Value}, Inv (cxOf CX P w K mg base N qual scope f cdv A outer s H E) [] σ' H' s' → RelV v u → Q v H' → CE outer P w H s Q u s' :=
    fun {σ' H' v u} J rv q => ⟨v, H', J.os, J.bare, J.base, J.hok, rv, q⟩
  cases fl with
  | ret u =>
    obtain ⟨v, σ', H', J, rv, q⟩ := hs
    exact fin J rv q
  | next =>
    obtain ⟨σ', H', J, q⟩ := hs
    exact fin (v := V.non) (u := Value.none) J rfl q
  | brk =>
    obtain ⟨_, _, _, q⟩ := hs
    exact False.elim q
  | cont =>
    obtain ⟨_, _, _, q⟩ := hs
    exact False.elim q
end L2

namespace L2
open PySem PySem.Spec PyProof.Rows
section
variable {X : Cx} {x : Str} {p pos : Pos} {e : Expr} {es : List Expr} {t : TA} {id T : String} {r : List V → Hp → VK → Prop}

def tCB (r : List V → Hp → VK → Prop) (t : TA) : TE := fun σ H Q => t σ H fun vs H1 => r vs H1 Q
/-- f(e, ..), f a built-in function -/
theorem pe_callB (hc : CallR X (.builtin id) r) (hg : Gl X x) (hm : X.mg x = none) (hv : bootBuiltins x = some (.builtin id)) (ha : PA X (e :: es) t) (hn : x ≠ "__name__" := by decide) (hdb : (x == ("__debug__" : Str)) = false := by decide)
    (he : starEach (e :: es) X.env = (false, eval e X.env) :: starEach es X.env := by rfl) (hpl : (backTo pos (starEach es X.env)).any (·.1) = false := by rfl) : PE X (.Call (.Name x p) (e :: es) [] pos) (tCB r t) := by
  intro pins s σ H Q I h
  refine wpAny_Call_Name_kw (ld_blt I hg hm hv ?_ hn hdb)
  exact PyProof.Rows.callWith_builtin1 (thn (ha pos pins s σ H _ I h) fun us s1 ⟨vs, H1, I1, r1, q1⟩ => hc pins s1 σ H1 vs us Q I1 r1 q1) he hpl
end
end L2

namespace HT
open PySem PyProof.Rows

section
open PySem.SeqAt
open PySem.AutoSeq1 (wpAny_loadPart')
open PySem.MeetsSeq PySem.MeetsSeq2 PySem.MeetsSeq3

end

section
variable {prog : Program} {w : World} {A : Around} {E : Value → Shared → Prop} {s : Shared}

end
end HT

namespace L2
open PySem PySem.Spec PyProof.Rows

abbrev TO := St → Hp → (Option Int → Hp → Prop) → Prop
/-- a slice's part (left out, or an int) -/
def PO (X : Cx) (e : Option Expr) (t : TO) : Prop :=
  ∀ (pins : List (Addr × Obj)) (s : Shared) (σ : St) (H : Hp) (Q : Option Int → Hp → Prop), Inv X pins σ H s → t σ H Q →
    wpAny (model X.prog X.w) X.A (evalPart e X.env) (fun u s' => ∃ o H', Inv X pins σ H' s' ∧ IsPart u o ∧ Q o H') X.xe s
def tNoPart : TO := fun _ H Q => Q none H
def tPart (t : TE) : TO := fun σ H Q => t σ H fun x H1 => ∃ i, x = .int i ∧ Q (some i) H1

section
variable {X : Cx} {e : Expr} {te : TE} {lo hi : Option Expr} {tl th : TO} {pos p2 : Pos}

theorem po_none : PO X none tNoPart := by
  intro pins s σ H Q I h
  rw [evalPart_none]
  exact wpAny_pure ⟨none, H, I, .none, h⟩
theorem po_some (h : PE X e te) : PO X (some e) (tPart te) := by
  intro pins s σ H Q I hw
  rw [evalPart_some]
  refine thn (h pins s σ H _ I hw) fun u s1 ⟨x, H1, I1, r1, q1⟩ => ?_
  obtain ⟨i, rfl, q⟩ := q1
  obtain ⟨t, rfl⟩ := r1
  exact ⟨some i, H1, I1, .int i t, q⟩

/-- what a slice of a value is, by values: the slice object stands at sl -/
def SlR (X : Cx) (r : V → Option Int → Option Int → Hp → VK → Prop) : Prop :=
  ∀ (pins : List (Addr × Obj)) (s : Shared) (σ : St) (H : Hp) (x : V) (v vl vu : Value) (lo hi : Option Int) (sl : Addr) (Q : VK), Inv X pins σ H s → RelV x v → s.heap.IsSliceOf sl vl vu .none → IsPart vl lo → IsPart vu hi → r x lo hi H Q →
    ∃ T id, typeLookup (.type T) "__getitem__" = pure (some (.builtin id)) ∧ s.TypeIs v T ∧ wpAny (model X.prog X.w) X.A (getItem v (.ref sl)) (EP X pins σ Q) X.xe s
theorem SlR.or {r r' : V → Option Int → Option Int → Hp → VK → Prop} (h : SlR X r) (h' : SlR X r') : SlR X (fun x lo hi H Q => r x lo hi H Q ∨ r' x lo hi H Q) := by
  intro pins s σ H x v vl vu lo hi sl Q I rx hs pl pu q
  rcases q with q | q
  · exact h pins s σ H x v vl vu lo hi sl Q I rx hs pl pu q
  · exact h' pins s σ H x v vl vu lo hi sl Q I rx hs pl pu q
def tSl (r : V → Option Int → Option Int → Hp → VK → Prop) (te : TE) (tl th : TO) : TE := fun σ H Q => te σ H fun x H1 => tl σ H1 fun l H2 => th σ H2 fun u H3 => r x l u H3 Q
/-- a[lo:hi], any a -/
theorem pe_slice {r : V → Option Int → Option Int → Hp → VK → Prop} (hr : SlR X r) (he : PE X e te) (hl : PO X lo tl) (hu : PO X hi th) : PE X (.Subscript e (.Slice lo hi none p2) pos) (tSl r te tl th) := by
  intro pins s σ H Q I h
  refine Subscript_ (thn (he pins s σ H _ I h) fun v s1 ⟨x, H1, I1, r1, q1⟩ => ?_)
  refine wpAny_Slice (thn (hl pins s1 σ H1 _ I1 q1) fun vl s2 ⟨l, H2, I2, pl, q2⟩ => thn (hu pins s2 σ H2 _ I2 q2) fun vu s3 ⟨u, H3, I3, pu, q3⟩ => ?_)
  rw [evalPart_none]
  refine wpAny_pure ?_
  have I4 : Inv X pins σ H3 { s3 with heap := s3.heap.push { cls := .type "slice", data := .fields #[vl, vu, .none] } } := I3.kept (t' := s3.toks) fun b ob q => Heap.get?_push_of_some _ q
  obtain ⟨T, id, hT, ht, hg⟩ := hr pins { s3 with heap := s3.heap.push { cls := .type "slice", data := .fields #[vl, vu, .none] } } σ H3 x v vl vu l u s3.heap.objs.size Q I4 r1 (Heap.IsSliceOf.new ..) pl pu q3
  show wpAny (model X.prog X.w) X.A (subscriptTail e (.Slice lo hi none p2) v (.ref s3.heap.objs.size)) (EP X pins σ Q) X.xe { s3 with heap := s3.heap.push { cls := .type "slice", data := .fields #[vl, vu, .none] } }
  exact tail_any (ops := [.ref s3.heap.objs.size, v]) ht hT hg (by with_unfolding_all rfl)

end
end L2

namespace L2
open PySem PySem.Spec PyProof.Rows

/-- the place that an index of any sign means -/
def ixN (n : Nat) (i : Int) : Option Nat := if 0 ≤ i then (if i < n then some i.toNat else none) else if -(n : Int) ≤ i then some (i + n).toNat else none
def atI {α : Type} (xs : List α) (i : Int) : Option α := (ixN xs.length i).bind fun j => xs[j]?
theorem ixN_seq {n : Nat} {i : Int} {j : Nat} (h : ixN n i = some j) : seqIndex? i n = some j ∧ j < n ∧ -(n : Int) ≤ i ∧ i < n := by
  unfold ixN at h
  by_cases h0 : 0 ≤ i
  · rw [if_pos h0] at h
    by_cases h1 : i < n
    · rw [if_pos h1] at h
      have e : i.toNat = j := Option.some.inj h
      exact ⟨by rw [seqIndex_of h0 h1, e], by omega, by omega, h1⟩
    · rw [if_neg h1] at h; cases h
  · rw [if_neg h0] at h
    by_cases h1 : -(n : Int) ≤ i
    · rw [if_pos h1] at h
      have e : (i + n).toNat = j := Option.some.inj h
      exact ⟨by rw [seqIndex_neg (by omega) h1, e], by omega, h1, by omega⟩
    · rw [if_neg h1] at h; cases h
theorem atI_get {α : Type} {xs : List α} {i : Int} {v : α} (h : atI xs i = some v) : ∃ j, seqIndex? i xs.length = some j ∧ xs[j]? = some v ∧ j < xs.length ∧ -(xs.length : Int) ≤ i ∧ i < xs.length := by
  unfold atI at h
  cases e : ixN xs.length i with
  | none => rw [e] at h; cases h
  | some j =>
    rw [e] at h
    obtain ⟨h1, h2, h3, h4⟩ := ixN_seq e
    exact ⟨j, h1, h, h2, h3, h4⟩
theorem atI_nat {α : Type} {xs : List α} {j : Nat} {v : α} (h : xs[j]? = some v) : atI xs (j : Int) = some v := by
  have hj : j < xs.length := (List.getElem?_eq_some_iff.mp h).1
  have e : ixN xs.length (j : Int) = some j := by
    unfold ixN
    rw [if_pos (by omega), if_pos (by omega)]; simp
  unfold atI; rw [e]; exact h
/-- what stands as an index of a plain subscript -/
def PlainIx (b : Expr) : Prop := ∀ o i, subscripted b false o i = operate [o, i] (getItem o i)
/-- a subscript by values -/
def IxR (X : Cx) (r : R2) : Prop :=
  ∀ (value slice : Expr) (pins : List (Addr × Obj)) (s : Shared) (σ : St) (H : Hp) (x y : V) (v u : Value) (Q : VK), Inv X pins σ H s → RelV x v → RelV y u → r x y H Q →
    subscripted slice false v u = operate [v, u] (getItem v u) → wpAny (model X.prog X.w) X.A (subscriptTail value slice v u) (EP X pins σ Q) X.xe s
/-- a call of a builtin's method by values: the receiver, the arguments -/
def MtR (X : Cx) (id : String) (r : V → List V → Hp → VK → Prop) : Prop :=
  ∀ (pins : List (Addr × Obj)) (s : Shared) (σ : St) (H : Hp) (x : V) (xs : List V) (v : Value) (us : List Value) (Q : VK), Inv X pins σ H s → RelV x v → Vals xs us → r x xs H Q →
    wpAny (model X.prog X.w) X.A (call (.builtin id) (v :: us)) (EP X pins σ Q) X.xe s
section
variable {X : Cx} {a b : Expr} {ta tb : TE} {pos : Pos}
theorem IxR.or {r r' : R2} (h : IxR X r) (h' : IxR X r') : IxR X (fun x y H Q => r x y H Q ∨ r' x y H Q) := by
  intro value slice pins s σ H x y v u Q I rx ry q hs
  rcases q with q | q
  · exact h value slice pins s σ H x y v u Q I rx ry q hs
  · exact h' value slice pins s σ H x y v u Q I rx ry q hs
theorem MtR.or {id : String} {r r' : V → List V → Hp → VK → Prop} (h : MtR X id r) (h' : MtR X id r') : MtR X id (fun x xs H Q => r x xs H Q ∨ r' x xs H Q) := by
  intro pins s σ H x xs v us Q I rx rs q
  rcases q with q | q
  · exact h pins s σ H x xs v us Q I rx rs q
  · exact h' pins s σ H x xs v us Q I rx rs q
/-- a[b] -/
theorem pe_ix {r : R2} (hr : IxR X r) (ha : PE X a ta) (hb : PE X b tb) (hs : PlainIx b) : PE X (.Subscript a b pos) (tOp r ta tb) := by
  intro pins s σ H Q I h
  exact Subscript_ (binT ha hb I h fun v u s2 x y H2 I2 rx ry q => hr a b pins s2 σ H2 x y v u Q I2 rx ry q (hs _ _))

def rIxL (K : PySem.W.Frag) : R2 := fun x y H Q => ∃ p xs i v, x = .ref p ∧ y = .int i ∧ SqL K H p xs ∧ atI xs i = some v ∧ Q v H
def rIxT (K : PySem.W.Frag) : R2 := fun x y H Q => ∃ p xs i v, x = .ref p ∧ y = .int i ∧ SqT K H p xs ∧ atI xs i = some v ∧ Q v H
def rIxS : R2 := fun x y H Q => ∃ z i c, x = .str z ∧ y = .int i ∧ z.length ≤ sizeLine ∧ atI z.cps.toList i = some c ∧ Q (.str ⟨#[c]⟩) H
theorem ix_list : IxR X (rIxL X.K) := by
  intro value slice pins s σ H x y v u Q I rx ry h hs
  obtain ⟨p, xs, i, z, rfl, rfl, hq, he, q⟩ := h
  cases rx
  obtain ⟨t, rfl⟩ := ry
  obtain ⟨its, r, pl, hz⟩ := I.list hq
  obtain ⟨j, h1, h2, h3, h4, h5⟩ := atI_get he
  obtain ⟨w, ew, rw'⟩ := r.get h2
  have hl := r.length
  have hn := line63
  have fin : EP X pins σ Q w s := ⟨z, H, I, rw', q⟩
  by_cases h0 : 0 ≤ i
  · have hj : i.toNat = j := by
      rw [seqIndex_of h0 h5] at h1
      exact Option.some.inj h1
    exact item_listR pl.isList h0 (by omega) (by rw [hj]; simpa using ew) fin hs
  · have hj : (i + (its.toArray.size : Int)).toNat = j := by
      rw [seqIndex_neg (by omega) h4] at h1
      rw [List.size_toArray, ← hl]
      exact Option.some.inj h1
    exact subscriptTail_builtinR (x := w) pl.isList.typeIs slot_list_getitem.lookup
      (wpAny_getItem_list_neg (Q := fun r s' => r = w ∧ EP X pins σ Q r s') pl.isList (by omega) (by rw [List.size_toArray] <;> omega) (by omega) (by rw [hj]; simpa using ew) ⟨rfl, fin⟩) hs
theorem ix_tup : IxR X (rIxT X.K) := by
  intro value slice pins s σ H x y v u Q I rx ry h hs
  obtain ⟨p, xs, i, z, rfl, rfl, hq, he, q⟩ := h
  cases rx
  obtain ⟨t, rfl⟩ := ry
  obtain ⟨its, r, pl, hz⟩ := I.tuple hq
  obtain ⟨j, h1, h2, h3, h4, h5⟩ := atI_get he
  obtain ⟨w, ew, rw'⟩ := r.get h2
  have hl := r.length
  have hn := line63
  have fin : EP X pins σ Q w s := ⟨z, H, I, rw', q⟩
  exact subscriptTail_builtinR (x := w) pl.typeIs slot_tuple_getitem.lookup
    (getItem_tuple (j := j) (Q := fun r s' => r = w ∧ EP X pins σ Q r s') pl (by omega) (by omega) (by rw [List.size_toArray, ← hl]; exact h1) (by simpa using ew) ⟨rfl, fin⟩) hs
theorem ix_str : IxR X rIxS := by
  intro value slice pins s σ H x y v u Q I rx ry h hs
  obtain ⟨z, i, c, rfl, rfl, hz, he, q⟩ := h
  obtain ⟨t, rfl⟩ := rx
  obtain ⟨t', rfl⟩ := ry
  obtain ⟨j, h1, h2, h3, h4, h5⟩ := atI_get he
  have hl : z.cps.toList.length = z.length := by simp [Str.length]
  rw [hl] at h1 h4 h5
  have hn := line63
  exact tail_any (typeIs_str s z t) slot_str_getitem.lookup (getItem_str (c := c) (by
    have e1 : decide (i < -(2 ^ 63 : Int)) = false := decide_eq_false (by omega)
    have e2 : decide (i ≥ 2 ^ 63) = false := decide_eq_false (by omega)
    rw [e1, e2, Bool.or_false]) (by rw [h1]; simpa using h2) ⟨.str ⟨#[c]⟩, H, I.tok _, ⟨_, rfl⟩, q⟩) hs
theorem Inv.lst {pins : List (Addr × Obj)} {σ : St} {H : Hp} {s : Shared} {p : Addr} {xs : List V} (I : Inv X pins σ H s) (h : H p = some (.lst xs)) :
    ∃ (its : List Value) (n : Nat), Vals xs its ∧ s.heap.get? p = some { cls := .type "list", data := .seq its.toArray n } ∧ xs.length ≤ sizeLine := by
  obtain ⟨z, its, n, r, e⟩ := I.hok p _ h
  exact ⟨its, n, r, e, z⟩
def flatV : V → Bool
  | .non => true
  | .bl _ => true
  | .int _ => true
  | .str _ => true
  | _ => false
/-- == of flat values -/
def eqV : V → V → Bool
  | .non, .non => true
  | .bl a, .bl b => a == b
  | .bl a, .int b => (if a then 1 else 0) == b
  | .int a, .bl b => a == (if b then 1 else 0)
  | .int a, .int b => a == b
  | .str a, .str b => a == b
  | _, _ => false
theorem eqAt_V {A : Around} {s : Shared} {y x : V} {u v : Value} (ry : RelV y u) (rx : RelV x v) (fy : flatV y = true) (fx : flatV x = true) : SeqAt.EqAt A s u v (eqV y x) := by
  cases y with
  | non =>
    cases ry
    cases x with
    | non => cases rx; exact SeqAt.EqAt.same _
    | bl b => cases rx; exact SeqAt.EqAt.none_bool b
    | int b => obtain ⟨t, rfl⟩ := rx; exact SeqAt.EqAt.none_int b t
    | str b => obtain ⟨t, rfl⟩ := rx; exact SeqAt.EqAt.none_str b t
    | _ => exact absurd (show false = true from fx) Bool.false_ne_true
  | bl a =>
    cases ry
    cases x with
    | non => cases rx; exact SeqAt.EqAt.bool_none a
    | bl b => cases rx; exact SeqAt.EqAt.bool_bool a b
    | int b => obtain ⟨t, rfl⟩ := rx; exact SeqAt.EqAt.bool_int a b t
    | str b => obtain ⟨t, rfl⟩ := rx; exact SeqAt.EqAt.bool_str a b t
    | _ => exact absurd (show false = true from fx) Bool.false_ne_true
  | int a =>
    obtain ⟨t', rfl⟩ := ry
    cases x with
    | non => cases rx; exact SeqAt.EqAt.int_none a t'
    | bl b => cases rx; exact SeqAt.EqAt.int_bool a t' b
    | int b => obtain ⟨t, rfl⟩ := rx; exact SeqAt.EqAt.int_int a t' b t
    | str b => obtain ⟨t, rfl⟩ := rx; exact SeqAt.EqAt.int_str a t' b t
    | _ => exact absurd (show false = true from fx) Bool.false_ne_true
  | str a =>
    obtain ⟨t', rfl⟩ := ry
    cases x with
    | non => cases rx; exact SeqAt.EqAt.str_none a t'
    | bl b => cases rx; exact SeqAt.EqAt.str_bool a t' b
    | int b => obtain ⟨t, rfl⟩ := rx; exact SeqAt.EqAt.str_int a t' b t
    | str b => obtain ⟨t, rfl⟩ := rx; exact SeqAt.EqAt.str_str a t' b t
    | _ => exact absurd (show false = true from fx) Bool.false_ne_true
  | _ => exact absurd (show false = true from fy) Bool.false_ne_true
theorem call_len_seq : CallR X (.builtin "len") (fun xs H Q => ∃ p ys, xs = [.ref p] ∧ (SqL X.K H p ys ∨ SqT X.K H p ys) ∧ Q (.int ys.length) H) := by
  intro pins s σ H xs us Q I r h
  obtain ⟨p, ys, rfl, hq, q⟩ := h
  obtain ⟨u, rfl, rx⟩ := vals1 r
  cases rx
  have hn := line63
  rcases hq with hq | hq
  · obtain ⟨its, r', pl, hz⟩ := I.list hq
    have hlen := r'.length
    exact Calls.call_len_list pl.isList (by simp only [List.size_toArray] <;> omega) ⟨.int ys.length, H, I.tok _, ⟨s.toks + 1, by rw [List.size_toArray, hlen]⟩, q⟩
  · obtain ⟨its, r', pl, hz⟩ := I.tuple hq
    have hlen := r'.length
    exact len_tuple pl (by simp only [List.size_toArray] <;> omega) ⟨.int ys.length, H, I.tok _, ⟨s.toks + 1, by rw [List.size_toArray, hlen]⟩, q⟩
theorem call_len_str : CallR X (.builtin "len") (fun xs H Q => ∃ z, xs = [.str z] ∧ z.length ≤ sizeLine ∧ Q (.int z.length) H) := by
  intro pins s σ H xs us Q I r h
  obtain ⟨z, rfl, hz, q⟩ := h
  obtain ⟨u, rfl, t, rfl⟩ := vals1 r
  have hn := line63
  exact len_str (by omega) ⟨.int z.length, H, I.tok _, ⟨_, rfl⟩, q⟩
theorem CallR.or {f : Value} {r r' : List V → Hp → VK → Prop} (h : CallR X f r) (h' : CallR X f r') : CallR X f (fun xs H Q => r xs H Q ∨ r' xs H Q) := by
  intro pins s σ H xs us Q I rs q
  rcases q with q | q
  · exact h pins s σ H xs us Q I rs q
  · exact h' pins s σ H xs us Q I rs q
/-- the value is of that builtin type -/
def tyV (K : PySem.W.Frag) (T : String) (x : V) (H : Hp) : Prop := match x with
  | .str _ => T = "str"
  | .int _ => T = "int"
  | .ref p => (T = "list" ∧ ∃ xs, SqL K H p xs) ∨ (T = "tuple" ∧ ∃ o, K.lookup p = some o ∧ o.cls = .type "tuple" ∧ o.dict = none) ∨
      (T = "dict" ∧ ((∃ kvs, H p = some (.dK kvs)) ∨ ∃ kvs, H p = some (.dT kvs))) ∨ (T = "set" ∧ ∃ S n, H p = some (.set S n))
  | _ => False
theorem tyV_is {pins : List (Addr × Obj)} {σ : St} {H : Hp} {s : Shared} {T : String} {x : V} {v : Value} (I : Inv X pins σ H s) (r : RelV x v) (ty : tyV X.K T x H) :
    s.TypeIs v T ∧ ∀ a, v = .ref a → ∃ ob, s.heap.get? a = some ob ∧ ob.dict = none := by
  cases x with
  | str z =>
    obtain ⟨t, rfl⟩ := r
    cases (show T = "str" from ty)
    exact ⟨typeIs_str s z t, fun _ e => nomatch e⟩
  | int i =>
    obtain ⟨t, rfl⟩ := r
    cases (show T = "int" from ty)
    exact ⟨typeIs_int s i t, fun _ e => nomatch e⟩
  | ref p =>
    cases r
    rcases ty with ⟨rfl, xs, hq⟩ | ⟨rfl, o, hk, hc, hd⟩ | ⟨rfl, hk⟩ | ⟨rfl, S, n, hk⟩
    · obtain ⟨its, _, pl, _⟩ := I.list hq
      refine ⟨pl.isList.typeIs, fun a e => ?_⟩
      cases e
      obtain ⟨o, n, e, c, hd, _⟩ := pl
      exact ⟨o, e, hd⟩
    · refine ⟨⟨o, I.kIn p o hk, hc⟩, fun a e => ?_⟩
      cases e
      exact ⟨o, I.kIn _ o hk, hd⟩
    · have z : ∃ o, s.heap.get? p = some o ∧ o.ExactDict := by
        rcases hk with ⟨kvs, hk⟩ | ⟨kvs, hk⟩
        · obtain ⟨_, _, _, _, o, _, _, e, ex, _⟩ := I.hok p _ hk
          exact ⟨o, e, ex⟩
        · obtain ⟨_, _, _, _, o, _, _, e, ex, _⟩ := I.hok p _ hk
          exact ⟨o, e, ex⟩
      obtain ⟨o, e, ex⟩ := z
      refine ⟨⟨o, e, ex.1⟩, fun a e2 => ?_⟩
      cases e2
      exact ⟨o, e, ex.2.1⟩
    · obtain ⟨o, _, _, _, e, ex, _⟩ := I.hok p _ hk
      refine ⟨⟨o, e, ex.1⟩, fun a e2 => ?_⟩
      cases e2
      exact ⟨o, e, ex.2.1⟩
  | _ => exact False.elim ty
def tBM0 (K : PySem.W.Frag) (T : String) (r : V → List V → Hp → VK → Prop) (to : TE) : TE := fun σ H Q => to σ H fun x H1 => tyV K T x H1 ∧ r x [] H1 Q
def tBM (K : PySem.W.Frag) (T : String) (r : V → List V → Hp → VK → Prop) (to : TE) (t : TA) : TE := fun σ H Q => to σ H fun x H1 => tyV K T x H1 ∧ t σ H1 fun xs H2 => r x xs H2 Q
variable {o e : Expr} {es : List Expr} {to : TE} {t : TA} {name : Str} {apos cpos : Pos} {T id : String} {r : V → List V → Hp → VK → Prop}
theorem pe_bm0 (pa : PlainAttrs T) (slot : Slot T name id) (hty : typeOf (.builtin id) = pure (.type "method_descriptor")) (hm : MtR X id r) (ho : PE X o to)
    (hbase : attributeBase o name X.env (eval o X.env) = eval o X.env := by rfl) (hline : (apos.endLine == cpos.line) = true := by rfl) : PE X (.Call (.Attribute o name apos) [] [] cpos) (tBM0 X.K T r to) := by
  intro pins s σ H Q I h
  refine wpAny_Call_method0_late hbase hline (thn (ho pins s σ H _ I h) fun v s1 ⟨x, H1, I1, r1, ty, q1⟩ => ?_)
  obtain ⟨h1, h2⟩ := tyV_is I1 r1 ty
  exact ⟨T, id, pa, slot, hty, h1, h2, Calls.callWith_builtin rfl (PySem.evalArgs_none (hm pins s1 σ H1 x [] v [] Q I1 r1 .nil q1))⟩
theorem pe_bm (pa : PlainAttrs T) (slot : Slot T name id) (hty : typeOf (.builtin id) = pure (.type "method_descriptor")) (hm : MtR X id r) (ho : PE X o to) (ha : PA X (e :: es) t)
    (hbase : attributeBase o name X.env (eval o X.env) = eval o X.env := by rfl)
    (hfew : ((backTo cpos (starEach (e :: es) X.env)).all (fun x => !x.1) && (backToKw cpos (keywordEach [] X.env)).all (fun x => x.1.isSome)
      && decide ((e :: es).length + ([] : List Keyword).length + (if ([] : List Keyword).isEmpty then 0 else 1) < 30)) = true := by rfl)
    (hline : (apos.endLine == cpos.line) = true := by rfl) (hs : starEach (e :: es) X.env = (false, eval e X.env) :: starEach es X.env := by rfl) (hplain : (backTo cpos (starEach es X.env)).any (·.1) = false := by rfl) :
    PE X (.Call (.Attribute o name apos) (e :: es) [] cpos) (tBM X.K T r to t) := by
  intro pins s σ H Q I h
  refine wpAny_Call_method_late hbase hfew hline rfl (thn (ho pins s σ H _ I h) fun v s1 ⟨x, H1, I1, r1, ty, q1⟩ => ?_)
  obtain ⟨h1, h2⟩ := tyV_is I1 r1 ty
  refine ⟨T, id, pa, slot, hty, h1, h2, ?_⟩
  have hA := ha cpos pins s1 σ H1 _ I1 q1
  rw [hs] at hA ⊢
  refine Calls.callWith_builtin (by show (false || (backTo cpos (starEach es X.env)).any (·.1)) = false; rw [hplain] <;> rfl) (Calls.evalArgs_plain ?_)
  exact thn hA fun us s2 ⟨vs, H2, I2, r2, q2⟩ => hm pins s2 σ H2 x vs v us Q I2 r1 r2 q2
/- xs.append(e), list.index on a module's tuple .. are MtR facts of 06m -/
end
end L2

namespace L2
open PySem PySem.Spec PyProof.Rows

def MtM (X : Cx) (id : String) (r : V → List V → Hp → VK → Prop) : Prop :=
  ∀ (pins : List (Addr × Obj)) (s : Shared) (σ : St) (H : Hp) (x : V) (xs : List V) (v : Value) (us : List Value) (Q : VK), Inv X pins σ H s → RelV x v → Vals xs us → r x xs H Q →
    wpAny (model X.prog X.w) X.A (call (.builtin id) (v :: us)) (EP X pins σ Q) X.xe s

theorem Vals.one : ∀ {x : V} {us : List Value}, Vals [x] us → ∃ u, us = [u] ∧ RelV x u
  | _, _, .cons r .nil => ⟨_, rfl, r⟩
theorem Vals.two : ∀ {x y : V} {us : List Value}, Vals [x, y] us → ∃ u v, us = [u, v] ∧ RelV x u ∧ RelV y v
  | _, _, _, .cons r (.cons q .nil) => ⟨_, _, rfl, r, q⟩
theorem Vals.zero : ∀ {us : List Value}, Vals [] us → us = []
  | _, .nil => rfl
theorem Vals.reverse {xs : List V} {us : List Value} (h : Vals xs us) : Vals xs.reverse us.reverse := by
  induction h with
  | nil => exact .nil
  | cons r t ih => rw [List.reverse_cons, List.reverse_cons]; exact Vals.append ih (.cons r .nil)
section
variable {X : Cx} {pins : List (Addr × Obj)} {σ : St} {H : Hp} {s : Shared} {l b : Addr} {xs ys zs : List V}

theorem Inv.lset {its its' : List Value} {n : Nat} {f : Array Value → Array Value} {t' : Nat} (I : Inv X pins σ H s) (hH : H l = some (.lst xs))
    (e : s.heap.get? l = some { cls := .type "list", data := .seq its.toArray n }) (hf : f its.toArray = its'.toArray) (hv : Vals ys its') (hz : ys.length ≤ sizeLine) :
    Inv X pins σ (upd H l (.lst ys)) { s with heap := s.heap.update l (Obj.mapSeq f), toks := t' } := by
  have q := PySem.IsL.update e f
  rw [hf] at q
  refine I.write (x := l) (e := l) (by rw [hH]; exact trivial) (.inl rfl) (fun b' u hb hu => (Heap.get?_update_other s.heap (Obj.mapSeq f) (Ne.symm hb)).trans hu) ⟨_, q⟩ ?_
  exact ⟨hz, its', _, hv, q⟩
theorem Inv.lnew {its : List Value} {t' : Nat} (I : Inv X pins σ H s) (hv : Vals ys its) (hz : ys.length ≤ sizeLine) :
    Inv X pins σ (upd H s.heap.objs.size (.lst ys)) { s with heap := s.heap.push { cls := .type "list", data := .seq its.toArray }, toks := t' } :=
  I.laid (fun _ _ q => Heap.get?_push_of_some _ q) (Nat.le_refl _) ⟨hz, its, 0, hv, Heap.get?_push_size _ rfl⟩
theorem Inv.fresh (I : Inv X pins σ H s) : H s.heap.objs.size = none := I.hok.fresh (Nat.le_refl _)
theorem Inv.lstM (I : Inv X pins σ H s) (hH : H l = some (.lst xs)) : xs.length ≤ sizeLine ∧ ∃ (its : List Value) (n : Nat), Vals xs its ∧ xs.length = its.length ∧ s.heap.get? l = some { cls := .type "list", data := .seq its.toArray n } := by
  obtain ⟨z, its, n, r, e⟩ := I.hok l _ hH
  exact ⟨z, its, n, r, r.length, e⟩

theorem notLongL {n : Nat} (h : n ≤ sizeLine) : Builtin.List.listTooLong n = false := by
  unfold Builtin.List.listTooLong
  exact decide_eq_false (by omega)
end

section
variable {X : Cx}

def rAppend : V → List V → Hp → VK → Prop := fun x vs H Q => ∃ l xs y, x = .ref l ∧ vs = [y] ∧ H l = some (.lst xs) ∧ xs.length < sizeLine ∧ Q .non (upd H l (.lst (xs ++ [y])))
theorem mt_append : MtM X "list.append" rAppend := by
  intro pins s σ H x vs v us Q I rx rv h
  obtain ⟨l, xs, y, rfl, rfl, hH, hz, q⟩ := h
  cases rx
  obtain ⟨u, rfl, ru⟩ := rv.one
  obtain ⟨z, its, n, r, hl, e⟩ := I.lstM hH
  refine call_meets F.slot_list_append ⟨_, e, rfl⟩ F.entry_list_append (F.args_list_append_2 _ _) (PySem.list_append l its.toArray n u (by rw [List.size_toArray]; omega)) ⟨e, ?_⟩
  refine ⟨.non, _, I.lset (its' := its ++ [u]) hH e (by simp) (r.append (.cons ru .nil)) ?_, rfl, q⟩
  rw [List.length_append, List.length_singleton]
  omega

def rExtend : V → List V → Hp → VK → Prop := fun x vs H Q => ∃ l b xs zs, x = .ref l ∧ vs = [.ref b] ∧ H l = some (.lst xs) ∧ H b = some (.lst zs) ∧ xs.length + zs.length ≤ sizeLine ∧ Q .non (upd H l (.lst (xs ++ zs)))
theorem mt_extend : MtM X "list.extend" rExtend := by
  intro pins s σ H x vs v us Q I rx rv h
  obtain ⟨l, b, xs, zs, rfl, rfl, hH, hB, hz, q⟩ := h
  cases rx
  obtain ⟨u, rfl, ru⟩ := rv.one
  cases ru
  obtain ⟨z, its, n, r, hl, e⟩ := I.lstM hH
  obtain ⟨z2, its2, n2, r2, hl2, e2⟩ := I.lstM hB
  have hsz : its.toArray.size + its2.toArray.size ≤ sizeLine := by rw [List.size_toArray, List.size_toArray]; omega
  have hlong : ¬ (!its.toArray.isEmpty && Builtin.List.listTooLong (its.toArray.size + its2.toArray.size)) = true := by
    rw [notLongL hsz, Bool.and_false]
    exact Bool.false_ne_true
  refine call_meets F.slot_list_extend ⟨_, e, rfl⟩ F.entry_list_extend (F.args_list_extend_2 _ _)
    (AutoSeq1.list_extend_list_list_0 l its.toArray n b its2.toArray n2 hlong (by rw [List.size_toArray]; omega) (by omega)) ⟨e, e2, ?_⟩
  refine ⟨.non, _, I.lset (its' := its ++ its2) hH e (by simp) (r.append r2) ?_, rfl, q⟩
  rw [List.length_append]
  omega

def rCat : R2 := fun x y H Q => ∃ l b xs zs, x = .ref l ∧ y = .ref b ∧ H l = some (.lst xs) ∧ H b = some (.lst zs) ∧ xs.length + zs.length ≤ sizeLine ∧ ∀ p, H p = none → Q (.ref p) (upd H p (.lst (xs ++ zs)))
theorem op_cat : OpR X (binaryOp .Add) rCat := by
  intro pins s σ H x y v u Q I rx ry h
  obtain ⟨l, b, xs, zs, rfl, rfl, hH, hB, hz, q⟩ := h
  cases rx
  cases ry
  obtain ⟨z, its, n, r, hl, e⟩ := I.lstM hH
  obtain ⟨z2, its2, n2, r2, hl2, e2⟩ := I.lstM hB
  refine PySem.P.add_list e e2 ?_ (by rw [List.size_toArray, List.size_toArray]; omega)
  have ea : its.toArray ++ its2.toArray = (its ++ its2).toArray := by simp
  rw [ea]
  exact ⟨.ref _, _, I.lnew (t' := s.toks) (r.append r2) (by rw [List.length_append]; omega), rfl, q _ I.fresh⟩
end

section
variable {prog : Program} {w : World} {A : Around} {E : Value → Shared → Prop} {s : Shared}
set_option maxRecDepth 100000 in
end

section
variable {X : Cx}
end
end L2

namespace Att
open PySem PySem.W PySem.Calls PyProof.Rows

theorem ints_of_wellAll {P : Params} {h : Heap} : ∀ (ns : List Int) (vs : List Value), WellAll P h vs (ns.map WData.int) → IntsAre vs ns := by
  intro ns
  induction ns with
  | nil =>
    intro vs w
    rw [List.map_nil] at w
    cases w
    exact .nil
  | cons n ns ih =>
    intro vs w
    rw [List.map_cons] at w
    cases w with
    | cons a b =>
      cases a
      exact .cons _ _ (ih _ b)

theorem script_of {l : OpenLaw} {n : Nat} (hn : l.most = some n) {P : Params} {h : Heap} {args : List WData} {vals : List Value}
    (hpre : l.row.toRowW.claim.pre args = true) (hwl : WellAll P h vals args) :
    ∃ a vs ns, vals = [Value.ref a] ∧ args = [WData.list (ns.map WData.int)] ∧ h.get? a = some { cls := .type "list", data := .seq vs.toArray } ∧ IntsAre vs ns ∧ ns.length ≤ n := by
  have hsh : WShape.hasAll [] args [.list .int] = true := (pre_splitW hpre).1
  have hc : l.pre.holds [] { args := args } = true := (pre_splitW hpre).2
  obtain ⟨d, r, rfl, h1, h2⟩ := hasAllW_cons hsh
  obtain rfl := hasAllW_nil h2
  obtain ⟨xs, rfl, h3⟩ := hasW_list h1
  obtain ⟨ns, rfl⟩ := items_int h3
  have hlen : ns.length ≤ n := by
    unfold OpenLaw.pre at hc
    have h4 : (WTm.not (.lt (.lit (.int (n : Int))) (.len (.arg 0)))).holds [] { args := [.list (ns.map .int)] } = true := by
      have h4 := (holds_andW hc).1
      rw [hn] at h4
      exact h4
    have h5 := condW_of h4 (w_not (w_lt w_lit (w_len_list (w_arg rfl))))
    rw [List.length_map] at h5
    refine Nat.le_of_not_lt fun q => ?_
    have q' : (n : Int) < ((ns.length : Nat) : Int) := by omega
    first
      | (rw [decide_eq_true q'] at h5; exact absurd h5 (by decide))
      | (simp at h5; omega)
  cases hwl with
  | cons w1 w2 =>
    cases w2
    cases w1 with
    | list ho hall => exact ⟨_, _, ns, rfl, rfl, ho, ints_of_wellAll ns _ hall, hlen⟩

theorem post_true (l : OpenLaw) (args : List WData) : l.row.toRowW.claim.post args (.bool true) args = true :=
  postW_of (r := l.row.toRowW) (X := (true == true))
    (show WShape.has [] (.bool true) .bool = true by first | rfl | decide | simp [WShape.has, WShape.arms, WShape.armsAll])
    (show (WTm.eq .res (.lit (.bool true))).value [] { args := args, res := some (.bool true), after := args } = some (.bool (true == true)) from w_eq_bool (w_res rfl) w_lit) rfl

/-- the same from a codeAny of the CALL (for a layer whose function contracts speak of calls) -/
theorem attach_call {l : OpenLaw} {n : Nat} {q : Program} {loose : List Str} {XP : (Str → Option Value) → Heap → Prop} {YP : World → Heap → Prop} {d : DefRec}
    (hn : l.most = some n) (hdf : d.params.defaults = [])
    (call : ∀ (w : World) (s₀ s₁ : Shared) (mg mb : Str → Option Value) (fa : Addr) (o : Obj) (pm cd doc : Value) (a : Addr) (vs : List Value) (ns : List Int),
      Ground q loose [] XP w s₀ mg mb s₁.heap → YP w s₁.heap →
      s₁.heap.get? fa = some o → o.data = .func (docDef d.name d.params d.body d.scope pm cd doc) → s₁.heap.CodeRec cd d.name → mg d.name = some (.ref fa) →
      s₁.heap.get? a = some { cls := .type "list", data := .seq vs.toArray } → IntsAre vs ns → ns.length ≤ n → s₁.gens = #[] →
      codeAny (model l.prog w) callerA (.call (.ref fa) ⟨[.ref a], []⟩) (fun r s' => r = .ok (.ret (.bool true)) ∧ OldK s₁.heap s'.heap ∧ s'.os = s₁.os ∧ AllBare s'.gens) s₁) :
    WalkO q loose XP YP l.row.toRowW d [] (fun f vs => PySem.call f vs) := by
  intro w s₀ s₁ mg mb G Y fa o pm cd doc dV kV ho hd hcd hD hmg hg args vals as hpre hlay hrd hwl hlo
  obtain rfl : dV = .none := Dflts.none hD hdf
  obtain rfl : kV = .none := Dflts.noKw hD
  obtain ⟨a, vs, ns, rfl, rfl, hobj, hints, hlen⟩ := script_of hn hpre hwl
  refine enter_call (codeAny_mono (call w s₀ s₁ mg mb fa o pm cd doc a vs ns G Y ho (fd_plain hd) hcd hmg hobj hints hlen hg) fun r s' hq => ?_)
  obtain ⟨rfl, h2, h3, h4⟩ := hq
  exact ⟨.inl ⟨.bool true, .bool true, [], rfl, fun _ => rfl, .bool true, post_true l _, fun _ => ⟨List.Pairwise.nil, fun _ hm => (nomatch hm)⟩⟩, h2, h3, h4⟩

section
variable {prog : Program} {w : World} {A : Around} {E : Value → Shared → Prop} {s : Shared} {K : Frag}

end
end Att

namespace L2
open PySem PySem.Spec PyProof.Rows

theorem vals_ints : ∀ {vs : List Value} {ns : List Int}, IntsAre vs ns → Vals (ns.map V.int) vs
  | _, _, .nil => .nil
  | _, _, .cons n t h => .cons ⟨t, rfl⟩ (vals_ints h)

/-- nothing is tracked but the script, known to the object (or it is an object of the module) -/
def Only (H : Hp) : Prop := ∀ b, H b = none ∨ ∃ o xs, H b = some (.frz o (.lst xs))

/-- THE HEAD: the law's promise, at the heap behind the top. F, the promise of the law's def, may use that base is part of the heap (so K.In base, base.Ns mainGlobals mg stand in Mod) -/
theorem law_call {P : Program} {w : World} {K : PySem.W.Frag} {mg mb : Str → Option Value} {CX : CXT} {k : Nat} {fa a : Addr} {fd : FuncData} {x : Str} {sp : Sp} {s₁ : Shared} {vs : List Value} {ns : List Int}
    (KX : K.In s₁.heap) (hns : s₁.heap.Ns mainGlobals mg) (hb : s₁.heap.Ns builtinsNs mb) (hbb : ∀ x : Str, x ≠ "__name__" → mb x = bootBuiltins x) (hlim : s₁.heap.NoLimit) (hg : s₁.gens = #[])
    (ha : s₁.heap.get? a = some { cls := .type "list", data := .seq vs.toArray }) (hi : IntsAre vs ns) (hl : ns.length ≤ sizeLine) (hr : Room k callerA)
    (F : ∀ base : Heap, K.In base → base.Ns mainGlobals mg → FnOk P w K mg base CX k fa fd [x] sp) (hbind : ∀ (s : Shared) (u : Value), BindsTo s fd ⟨[u], []⟩ [(x, u)])
    (hsp : ∀ H : Hp, Only H → SqL K H a (ns.map V.int) → sp [.ref a] H (fun v _ => v = .bl true) fun _ _ _ => False)
    (hCX : ∀ H e s', CX [] H s₁ (fun _ _ _ => False) e s' → False) :
    codeAny (model P w) callerA (.call (.ref fa) ⟨[.ref a], []⟩) (fun r s' => r = .ok (.ret (.bool true)) ∧ OldK s₁.heap s'.heap ∧ s'.os = s₁.os ∧ AllBare s'.gens) s₁ := by
  have rv := vals_ints hi
  have lenV := hi.length
  -- from an abstract heap in which nothing but the script may be tracked
  have core : ∀ H : Hp, Only H → SqL K H a (ns.map V.int) → HOk P w H s₁.heap → (∀ b, H b ≠ none → b = a) → (H a ≠ none → K.lookup a = none) →
      codeAny (model P w) callerA (.call (.ref fa) ⟨[.ref a], []⟩) (fun r s' => r = .ok (.ret (.bool true)) ∧ OldK s₁.heap s'.heap ∧ s'.os = s₁.os ∧ AllBare s'.gens) s₁ := by
    intro H hO hS hok hA hK
    have base_of : ∀ {b : Addr} {o : Obj}, s₁.heap.get? b = some o → H b = none → (hidT s₁.heap H).get? b = some o := fun e n => hidT_get e n
    have noA : ∀ {b : Addr} {o : Obj} {es : Array DictEntry} {ep : Nat}, s₁.heap.get? b = some o → o.data = .dict es ep → H b = none := fun {b o es ep} e d => by
      cases q : H b with
      | none => rfl
      | some u =>
        have e' : b = a := hA b (by rw [q]; simp)
        subst e'
        rw [ha] at e; cases e
        have d' : Data.seq vs.toArray _ = Data.dict es ep := d
        cases d'
    have nsK : ∀ {b : Addr} {m : Str → Option Value}, s₁.heap.Ns b m → (hidT s₁.heap H).Ns b m := fun {b m} ⟨o, es, ep, e, d, r⟩ => ⟨o, es, ep, base_of e (noA e d), d, r⟩
    have hKb : K.In (hidT s₁.heap H) := fun b o e => base_of (KX b o e) (by
      cases q : H b with
      | none => rfl
      | some u =>
        have e' : b = a := hA b (by rw [q]; simp)
        subst e'
        rw [hK (by rw [q]; simp)] at e; cases e)
    have hM : Mod K mg (hidT s₁.heap H) := ⟨hKb, nsK hns, ⟨mb, nsK hb, hbb⟩, let ⟨mc, h1, h2⟩ := hlim; ⟨mc, nsK h1, h2⟩⟩
    have e0 : Env0 P w K mg (hidT s₁.heap H) callerA [] s₁ H := ⟨rfl, hM, fun b o e => of_hidT e, Nat.le_of_eq (hidT_size _ _), trivial, fun b hb => absurd (show b ∈ ([] : List Addr) from hb) (by simp), hok, .of_eq hg⟩
    refine codeAny_mono ((F _ hKb (nsK hns)).run callerA [] s₁ H ⟨[.ref a], []⟩ [.ref a] [.ref a] _ _ hr e0 (hbind s₁ (.ref a)) (.cons rfl .nil) (hsp H hO hS)) fun r s' h => ?_
    cases r with
    | error e => exact (hCX H e s' h).elim
    | ok fl =>
      cases fl with
      | next => exact False.elim h
      | brk => exact False.elim h
      | cont => exact False.elim h
      | ret u =>
        obtain ⟨v, H', os, bare, un, hok', r', q⟩ := h
        have q' : v = .bl true := q
        subst q'
        obtain rfl : u = Value.bool true := r'
        refine ⟨rfl, OldK.of_keep fun b o e => ?_, os, bare⟩
        cases q : H b with
        | none => exact un.keep b o e q (by intro z; exact absurd (show b ∈ ([] : List Addr) from z) (by simp)) (by simp)
        | some u =>
          rcases hO b with z | ⟨ob, xs, z⟩
          · rw [q] at z; cases z
          · have z2 := un.frzs b ob _ z
            obtain ⟨e1, _⟩ := hok b _ z
            obtain ⟨e2, _⟩ := hok' b _ z2
            rw [e] at e1; cases e1
            exact e2
  cases hk : K.lookup a with
  | some o =>
    -- the script is one of the module's own objects
    have e := KX a o hk
    rw [ha] at e
    cases e
    refine core (fun _ => none) (fun _ => .inl rfl) (.inr ⟨_, vs.toArray, _, hk, rfl, rfl, rfl, by rw [List.size_toArray, lenV]; exact hl, by simpa using rv⟩) (fun b u z => by have z' : (none : Option HO) = some u := z; cases z') (fun b z => absurd rfl z) fun z => absurd rfl z
  | none =>
    refine core (fun b => if b = a then some (.frz { cls := .type "list", data := .seq vs.toArray } (.lst (ns.map V.int))) else none) (fun b => ?_) (.inl (.inr ⟨{ cls := .type "list", data := .seq vs.toArray }, if_pos rfl⟩)) (fun b u z => ?_) (fun b z => ?_) fun _ => hk
    · by_cases hb : b = a
      · exact .inr ⟨_, _, if_pos hb⟩
      · exact .inl (if_neg hb)
    · by_cases hb : b = a
      · have z' := (if_pos hb).symm.trans z
        cases z'
        subst hb
        exact ⟨ha, by rw [List.length_map]; exact hl, vs, _, rv, ha⟩
      · have z' := (if_neg hb).symm.trans z
        cases z'
    · by_cases hb : b = a
      · exact hb
      · exact absurd (if_neg hb) z
end L2

namespace L2
open PySem PySem.Spec PyProof.Rows

abbrev KOf {K : PySem.W.Frag} {h : Heap} (_ : K.In h) : PySem.W.Frag := K

/-- the goal that k_head leaves (case hc), from the law's promise. F gives the function object fd (K's own) once, then the promise over every base -/
theorem walk_of {l : PySem.W.OpenLaw} {n k : Nat} {q : Program} {loose : List Str} {XP : (Str → Option Value) → Heap → Prop} {YP : World → Heap → Prop} {d : DefRec} {K : Params → PySem.W.Frag} {CX : World → CXT} {sp : World → Sp} {x : Str}
    (hn : l.most = some n) (hn2 : n ≤ sizeLine) (hdf : d.params.defaults = []) (hr : Room k callerA)
    (hY : ∀ (w : World) (h : Heap), YP w h → (K w.params).In h)
    (F : ∀ (w : World) (mg : Str → Option Value) (fa : Addr) (h : Heap), (K w.params).In h → h.Ns mainGlobals mg → mg d.name = some (.ref fa) →
      ∃ fd : FuncData, (∀ (s : Shared) (u : Value), BindsTo s fd ⟨[u], []⟩ [(x, u)]) ∧
        ∀ base : Heap, (K w.params).In base → base.Ns mainGlobals mg → FnOk l.prog w (K w.params) mg base (CX w) k fa fd [x] (sp w))
    (hsp : ∀ (w : World) (H : Hp) (a : Addr) (ns : List Int), ns.length ≤ n → Only H → SqL (K w.params) H a (ns.map V.int) → sp w [.ref a] H (fun v _ => v = .bl true) fun _ _ _ => False)
    (hCX : ∀ (w : World) (H : Hp) (s : Shared) (e : Value) (s' : Shared), CX w [] H s (fun _ _ _ => False) e s' → False) :
    PySem.W.WalkO q loose XP YP l.row.toRowW d [] (fun f vs => PySem.call f vs) := by
  refine Att.attach_call hn hdf fun w s₀ s₁ mg mb fa o pm cd doc a vs ns G Y ho hd hcd hmg hobj hints hlen hg => ?_
  have KX := hY w _ Y
  obtain ⟨fd, hb, hF⟩ := F w mg fa _ KX G.T.g hmg
  exact law_call KX G.T.g G.T.b G.T.builtins G.T.nolimit hg hobj hints (Nat.le_trans hlen hn2) hr hF hb (fun H hO hS => hsp w H a ns hlen hO hS) fun H e s' => hCX w H s₁ e s'
end L2


namespace L2
open PySem PySem.Spec PyProof.Rows

def defArgs (s : Stmt) : Arguments := match s with
  | .FunctionDef _ a _ _ _ _ _ _ _ _ => a
  | _ => { posonlyargs := [], args := [], vararg := none, kwonlyargs := [], kw_defaults := [], kwarg := none, defaults := [] }
def defBody (s : Stmt) : List Stmt := match s with
  | .FunctionDef _ _ b _ _ _ _ _ _ _ => b
  | _ => []
def defScope (s : Stmt) : Scope := match s with
  | .FunctionDef _ _ _ _ _ _ sc _ _ _ => sc
  | _ => { kind := .function, names := [], isGenerator := false, isCoroutine := false }

abbrev CX0 : CXT := fun _ _ _ _ _ _ => False
abbrev E0 : XK := fun _ _ _ => False
theorem pass0 {X : Cx} : Passes CX0 X E0 := fun _ _ _ _ _ _ _ h => h.elim

structure Fun (K : PySem.W.Frag) (x qual : Str) (st : Stmt) (f : Addr) (fd : FuncData) : Prop where
  ex : ∃ (oc : Value) (od : Option Addr) (kV doc pm : Value) (an : Option Addr) (cdv ct : Value) (osl : Array (Option Value)),
    fd = PySem.W.fnOf x qual (defArgs st) (defBody st) (defScope st) .none kV doc pm an cdv ct ∧ K.lookup f = some ⟨oc, od, .func fd, osl⟩ ∧ PySem.W.codeIn K cdv qual = true
  kp : PySem.W.keepIn K (.ref f) = true
section
variable {P : Program} {w : World} {K : PySem.W.Frag} {mg : Str → Option Value} {base : Heap}
/-- THE RULE for a def: its body as a term of rules, and the reading of that term -/
theorem Fun.ok {x qual : Str} {st : Stmt} {f : Addr} {fd : FuncData} {N ps : List Str} {k : Nat} {sp : Sp} (F : Fun K x qual st f fd) (S : FnScope N ps (defScope st)) (len : ∀ vs H Q E, sp vs H Q E → vs.length = ps.length)
    (hbody : ∀ (cdv : Value) (A : Around) (outer : List Env) (s : Shared) (H : Hp) (vs : List V) (Q : VK) (E : XK), Room k (A.deeper (envOfC qual (defScope st) s.heap.objs.size f cdv)) → sp vs H Q E →
      ∃ t, PSs (cxOf CX0 P w K mg base N qual (defScope st) f cdv A outer s H E).nox (defBody st) t ∧ t { nx := fun _ H' => Q .non H', rt := Q } (start N vs) H) : FnOk P w K mg base CX0 (k + 1) f fd ps sp := by
  obtain ⟨oc, od, kV, doc, pm, an, cdv, ct, osl, rfl, lk, hcd⟩ := F.ex
  refine fn_of lk hcd S len fun A outer s H vs Q E hr hsp => ?_
  obtain ⟨t, h, q⟩ := hbody cdv A outer s H vs Q E hr hsp
  exact ⟨t, h.nox, q⟩
/-- how its arguments bind (no defaults): h is «fun _ _ _ _ _ _ us hl => match us, hl with | [_, _], _ => rfl», one _ a parameter -/
theorem Fun.binds {x qual : Str} {st : Stmt} {f : Addr} {fd : FuncData} {ps : List Str} (F : Fun K x qual st f fd)
    (h : ∀ (kV doc pm : Value) (an : Option Addr) (cdv ct : Value) (us : List Value), us.length = ps.length → bindArgs (PySem.W.fnOf x qual (defArgs st) (defBody st) (defScope st) .none kV doc pm an cdv ct) ⟨us, []⟩ = pure (ps.zip us)) : Binds K fd ps [] := by
  obtain ⟨oc, od, kV, doc, pm, an, cdv, ct, osl, rfl, lk, hcd⟩ := F.ex
  exact .all (h kV doc pm an cdv ct)
theorem fun_mk {x qual : Str} {st : Stmt} {f : Addr} {oc : Value} {od an : Option Addr} {osl : Array (Option Value)} {kV doc pm cdv ct : Value} (l : K.lookup f = some ⟨oc, od, .func (PySem.W.fnOf x qual (defArgs st) (defBody st) (defScope st) .none kV doc pm an cdv ct), osl⟩)
    (c : PySem.W.codeIn K cdv qual = true) (k : PySem.W.keepIn K (.ref f) = true) : Fun K x qual st f (PySem.W.fnOf x qual (defArgs st) (defBody st) (defScope st) .none kV doc pm an cdv ct) := ⟨⟨oc, od, kV, doc, pm, an, cdv, ct, osl, rfl, l, c⟩, k⟩
end
section
variable {X : Cx}
theorem pv (i : Nat) {x : Str} {pos : Pos} (hN : X.N[i]? = some x := by rfl) (hv : Vis X.env.scope x := by first | exact Or.inl rfl | exact Or.inr (Or.inl rfl) | exact Or.inr (Or.inr rfl)) (hd : (x == ("__debug__" : Str)) = false := by decide)
    (hcd : (x == ("__classdict__" : Str)) = false := by decide) : PE X (.Name x pos) (tVar i) := pe_var hN hv hd hcd
end

theorem iteF {A B : Prop} (h : B) : if false = true then A else B := by
  rw [if_neg Bool.false_ne_true]
  exact h
theorem iteT {A B : Prop} (h : A) : if true = true then A else B := by
  rw [if_pos rfl]
  exact h
/-- all that was tracked is as it was -/
def Same (H H' : Hp) : Prop := ∀ b o, H b = some o → H' b = some o
theorem Same.refl (H : Hp) : Same H H := fun _ _ h => h
theorem Same.trans {H H1 H2 : Hp} (a : Same H H1) (b : Same H1 H2) : Same H H2 := fun c o h => b c o (a c o h)
theorem Same.free {H H' : Hp} (e : Same H H') {l : Addr} (h : H' l = Option.none) : H l = Option.none := by
  cases q : H l with
  | none => rfl
  | some o =>
    rw [e l o q] at h
    cases h
theorem Same.seq {K : PySem.W.Frag} {H H' : Hp} {a : Addr} {xs : List V} (e : Same H H') (h : SqL K H a xs) : SqL K H' a xs := by
  rcases h with (h | ⟨o, h⟩) | h
  · exact .inl (.inl (e _ _ h))
  · exact .inl (.inr ⟨o, e _ _ h⟩)
  · exact .inr h

end L2

set_option Elab.async false
set_option linter.all false
set_option maxRecDepth 100000
namespace L2
open PySem PySem.Spec PyProof.Rows

section
variable {κ : Type} [DecidableEq κ]
def valV (kvs : List (κ × V)) (k : κ) : Option V := (kvs.find? fun kv => decide (kv.1 = k)).map (·.2)
/-- in its place, or at the end -/
def putK (kvs : List (κ × V)) (k : κ) (v : V) : List (κ × V) :=
  if (kvs.any fun kv => decide (kv.1 = k)) = true then kvs.map (fun kv => if kv.1 = k then (kv.1, v) else kv) else kvs ++ [(k, v)]
def dropK (kvs : List (κ × V)) (k : κ) : List (κ × V) := kvs.filter fun kv => decide (kv.1 ≠ k)

theorem valV_pos {p : κ × V} {r : List (κ × V)} {k : κ} (e : p.1 = k) : valV (p :: r) k = some p.2 := by simp [valV, List.find?_cons, e]
theorem valV_neg {p : κ × V} {r : List (κ × V)} {k : κ} (e : ¬ p.1 = k) : valV (p :: r) k = valV r k := by simp [valV, List.find?_cons, e]
theorem valV_any (k : κ) : ∀ kvs : List (κ × V), (kvs.any fun kv => decide (kv.1 = k)) = (valV kvs k).isSome
  | [] => rfl
  | p :: r => by
    rw [List.any_cons]
    by_cases e : p.1 = k
    · simp only [valV_pos e, decide_eq_true e, Bool.true_or, Option.isSome_some]
    · rw [valV_neg e, decide_eq_false e, Bool.false_or]; exact valV_any k r
theorem valV_map (k j : κ) (y : V) : ∀ kvs : List (κ × V), valV (kvs.map fun kv => if kv.1 = k then (kv.1, y) else kv) j = (valV kvs j).map fun x => if j = k then y else x
  | [] => rfl
  | p :: r => by
    have ih := valV_map k j y r
    rw [List.map_cons]
    by_cases h : p.1 = k
    · rw [if_pos h]
      by_cases e : p.1 = j
      · rw [valV_pos (p := (p.1, y)) e, valV_pos e, Option.map_some, if_pos (e.symm.trans h)]
      · rw [valV_neg (p := (p.1, y)) e, valV_neg e, ih]
    · rw [if_neg h]
      by_cases e : p.1 = j
      · rw [valV_pos (p := p) e, valV_pos e, Option.map_some, if_neg (fun z => h (e.trans z))]
      · rw [valV_neg (p := p) e, valV_neg e, ih]
theorem valV_snoc (k j : κ) (y : V) : ∀ kvs : List (κ × V), valV kvs k = none → valV (kvs ++ [(k, y)]) j = if j = k then some y else valV kvs j
  | [], _ => by
    by_cases e : k = j
    · rw [if_pos e.symm]; exact valV_pos (p := (k, y)) e
    · rw [if_neg (fun z => e z.symm)]; exact valV_neg (p := (k, y)) e
  | p :: r, hn => by
    rw [List.cons_append]
    have hk : ¬ p.1 = k := fun z => by rw [valV_pos z] at hn; cases hn
    rw [valV_neg hk] at hn
    have ih := valV_snoc k j y r hn
    by_cases e : p.1 = j
    · rw [valV_pos e, valV_pos e, if_neg (fun z => hk (e.trans z))]
    · rw [valV_neg e, valV_neg e, ih]
theorem valV_put (kvs : List (κ × V)) (k j : κ) (y : V) : valV (putK kvs k y) j = if j = k then some y else valV kvs j := by
  unfold putK
  by_cases a : (kvs.any fun kv => decide (kv.1 = k)) = true
  · rw [if_pos a, valV_map]
    rw [valV_any] at a
    by_cases e : j = k
    · obtain ⟨x, hx⟩ := Option.isSome_iff_exists.mp a
      rw [if_pos e, e, hx, Option.map_some, if_pos rfl]
    · rw [if_neg e]
      cases valV kvs j with
      | none => rfl
      | some x => rw [Option.map_some, if_neg e]
  · rw [if_neg a]
    refine valV_snoc k j y kvs ?_
    rw [valV_any] at a
    cases q : valV kvs k with
    | none => rfl
    | some x => rw [q] at a; exact (a rfl).elim
theorem putK_new {kvs : List (κ × V)} {k : κ} (v : V) (h : valV kvs k = none) : putK kvs k v = kvs ++ [(k, v)] := by
  unfold putK
  rw [valV_any, h]
  exact if_neg (by decide)

theorem RelO.getD {o : Option V} {u : Option Value} {d : V} {d' : Value} (r : RelO o u) (rd : RelV d d') : RelV (o.getD d) (u.getD d') := by
  cases o with
  | none => cases u with
    | none => exact rd
    | some _ => exact (show False from r).elim
  | some _ => cases u with
    | none => exact (show False from r).elim
    | some _ => exact r

theorem KV.any {kvs : List (κ × V)} {vs : List (κ × Value)} (r : KV kvs vs) (k : κ) : (kvs.any fun kv => decide (kv.1 = k)) = vs.any fun kv => decide (kv.1 = k) := by
  unfold KV at r
  induction r with
  | nil => rfl
  | cons h t ih => rw [List.any_cons, List.any_cons, ih, h.1]
theorem KV.drop {kvs : List (κ × V)} {vs : List (κ × Value)} (r : KV kvs vs) (k : κ) : KV (dropK kvs k) (without vs k) := by
  unfold KV at r ⊢
  unfold dropK without
  induction r with
  | nil => exact .nil
  | @cons p q ps qs h t ih =>
    obtain ⟨h1, h2⟩ := h
    rw [List.filter_cons, List.filter_cons]
    by_cases e : p.1 = k
    · have a : ¬ decide (p.1 ≠ k) = true := by simp [e]
      have b : ¬ decide (q.1 ≠ k) = true := by simp [h1.symm.trans e]
      rw [if_neg a, if_neg b]; exact ih
    · have e' : ¬ q.1 = k := fun z => e (h1.trans z)
      have a : decide (p.1 ≠ k) = true := by simp [e]
      have b : decide (q.1 ≠ k) = true := by simp [e']
      rw [if_pos a, if_pos b]; exact .cons ⟨h1, h2⟩ ih
theorem KV.keys {kvs : List (κ × V)} {vs : List (κ × Value)} (r : KV kvs vs) : kvs.map (·.1) = vs.map (·.1) := by
  unfold KV at r
  induction r with
  | nil => rfl
  | cons h t ih => rw [List.map_cons, List.map_cons, ih, h.1]
theorem KV.length {kvs : List (κ × V)} {vs : List (κ × Value)} (r : KV kvs vs) : kvs.length = vs.length := Paired.length r
end


/-- raw entries of a dict with tuple keys -/
abbrev KT (H : Hp) : List (List Key × V) → List (List Key × Addr × Value) → Prop := Paired fun p q => p.1 = q.1 ∧ H q.2.1 = some (.tup (p.1.map kV)) ∧ RelV p.2 q.2.2
theorem KT.keeps {H H' : Hp} {kvs : List (List Key × V)} {xs : List (List Key × Addr × Value)} (r : KT H kvs xs) (ht : ∀ b ys, H b = some (.tup ys) → H' b = some (.tup ys)) : KT H' kvs xs :=
  Paired.mapP r fun _ _ z => ⟨z.1, ht _ _ z.2.1, z.2.2⟩

section
variable {P : Program} {w : World} {H : Hp} {h : Heap} {a : Addr}
end

/-- what the dict at a holds at the key y -/
def DGet (H : Hp) (a : Addr) (y : V) (r : Option V) : Prop :=
  (∃ kvs k, Rd H a (.dK kvs) ∧ y = kV k ∧ r = valV kvs k) ∨ ∃ kvs k b, Rd H a (.dT kvs) ∧ y = .ref b ∧ H b = some (.tup (k.map kV)) ∧ r = valV kvs k
/-- the heap behind a[y] = v -/
def DPut (H : Hp) (a : Addr) (y v : V) (H' : Hp) : Prop :=
  (∃ kvs k, H a = some (.dK kvs) ∧ y = kV k ∧ kvs.length < sizeLine ∧ H' = upd H a (.dK (putK kvs k v))) ∨
  ∃ kvs k b, H a = some (.dT kvs) ∧ y = .ref b ∧ H b = some (.tup (k.map kV)) ∧ kvs.length < sizeLine ∧ H' = upd H a (.dT (putK kvs k v))
theorem DGet.k {H : Hp} {a : Addr} {kvs : List (Key × V)} {k : Key} (e : H a = some (.dK kvs)) : DGet H a (kV k) (valV kvs k) := .inl ⟨kvs, k, .inl e, rfl, rfl⟩
theorem DGet.t {H : Hp} {a b : Addr} {kvs : List (List Key × V)} {k : List Key} (e : H a = some (.dT kvs)) (eb : H b = some (.tup (k.map kV))) : DGet H a (.ref b) (valV kvs k) := .inr ⟨kvs, k, b, .inl e, rfl, eb, rfl⟩
theorem DPut.k {H : Hp} {a : Addr} {kvs : List (Key × V)} {k : Key} {v : V} (e : H a = some (.dK kvs)) (hl : kvs.length < sizeLine) : DPut H a (kV k) v (upd H a (.dK (putK kvs k v))) := .inl ⟨kvs, k, e, rfl, hl, rfl⟩
theorem DPut.t {H : Hp} {a b : Addr} {kvs : List (List Key × V)} {k : List Key} {v : V} (e : H a = some (.dT kvs)) (eb : H b = some (.tup (k.map kV))) (hl : kvs.length < sizeLine) :
    DPut H a (.ref b) v (upd H a (.dT (putK kvs k v))) := .inr ⟨kvs, k, b, e, rfl, eb, hl, rfl⟩


section
variable {X : Cx} {pins : List (Addr × Obj)} {σ : St} {H : Hp} {s : Shared} {a : Addr} {y v : V} {u r : Value} {o : Option V} {A : Around} {E : Value → Shared → Prop}

end

section
variable {X : Cx} {pins : List (Addr × Obj)} {σ : St} {H : Hp} {s : Shared} {a : Addr} {kvs : List (Key × V)} {k : Key} {u : Value} {A : Around} {E : Value → Shared → Prop}
end


section
variable {X : Cx} {o i e value : Expr} {pos pos' tpos : Pos} {td ty tv : TE}
end


section
variable {X : Cx} {pos : Pos}
end

abbrev VV : List (V × V) → List (Value × Value) → Prop := Paired fun p q => RelV p.1 q.1 ∧ RelV p.2 q.2
/-- a method call o.m(e) of a built-in, with one argument: what must be seen of the text -/
structure M1 (X : Cx) (o : Expr) (m : Str) (apos : Pos) (e : Expr) (cpos : Pos) : Prop where
  base : attributeBase o m X.env (eval o X.env) = eval o X.env
  few : ((backTo cpos (starEach [e] X.env)).all (fun x => !x.1) && (backToKw cpos (keywordEach [] X.env)).all (fun x => x.1.isSome)
    && decide (([e] : List Expr).length + ([] : List Keyword).length + (if ([] : List Keyword).isEmpty then 0 else 1) < 30)) = true
  line : (apos.endLine == cpos.line) = true
  trees : backTo cpos (starEach [e] X.env) = [(false, eval e X.env)]
structure M2 (X : Cx) (o : Expr) (m : Str) (apos : Pos) (e f : Expr) (cpos : Pos) : Prop where
  base : attributeBase o m X.env (eval o X.env) = eval o X.env
  few : ((backTo cpos (starEach [e, f] X.env)).all (fun x => !x.1) && (backToKw cpos (keywordEach [] X.env)).all (fun x => x.1.isSome)
    && decide (([e, f] : List Expr).length + ([] : List Keyword).length + (if ([] : List Keyword).isEmpty then 0 else 1) < 30)) = true
  line : (apos.endLine == cpos.line) = true
  trees : backTo cpos (starEach [e, f] X.env) = [(false, eval e X.env), (false, eval f X.env)]

section
variable {X : Cx} {pins : List (Addr × Obj)} {σ : St} {H : Hp} {s : Shared} {a : Addr} {y d : V} {u r : Value} {o : Option V} {A : Around} {E : Value → Shared → Prop}
end

section
variable {X : Cx} {o e f : Expr} {apos cpos : Pos} {td ty tx : TE}
end

section
variable {X : Cx} {pins : List (Addr × Obj)} {σ : St} {H : Hp} {s : Shared} {a : Addr} {kvs : List (Key × V)} {A : Around} {E : Value → Shared → Prop}
end


section
variable {X : Cx} {pins : List (Addr × Obj)} {σ : St} {H : Hp} {s : Shared} {a : Addr} {y : V} {u : Value} {A : Around} {E : Value → Shared → Prop}
end
end L2
namespace L2
open PySem PySem.Spec PyProof.Rows
section
variable {κ : Type} [DecidableEq κ]
end
end L2


namespace Fc
/-- how often 2 goes into n -/
def val2 (n : Nat) : Nat := if h : n = 0 then 0 else if n % 2 = 0 then val2 (n / 2) + 1 else 0
termination_by n
decreasing_by omega
theorem val2_odd {n : Nat} (h : n % 2 = 1) : val2 n = 0 := by
  rw [val2]
  split
  · rfl
  · rw [if_neg (by omega)]
theorem val2_even {n : Nat} (h0 : 0 < n) (h : n % 2 = 0) : val2 n = val2 (n / 2) + 1 := by
  rw [val2, dif_neg (by omega), if_pos h]
theorem val2_two {n : Nat} (h0 : 0 < n) : val2 (2 * n) = val2 n + 1 := by
  rw [val2_even (by omega) (by omega)]
  congr 2
  omega
/-- n is its part's power of two times an odd number -/
theorem val2_split : ∀ (k n : Nat), n ≤ k → 0 < n → ∃ a, n = 2 ^ val2 n * (2 * a + 1)
  | 0, n, h, h0 => absurd h (by omega)
  | k + 1, n, h, h0 => by
    by_cases e : n % 2 = 0
    · obtain ⟨a, ha⟩ := val2_split k (n / 2) (by omega) (by omega)
      refine ⟨a, ?_⟩
      rw [val2_even h0 e, Nat.pow_succ, Nat.mul_comm (2 ^ _) 2, Nat.mul_assoc, ← ha]
      omega
    · exact ⟨n / 2, by rw [val2_odd (by omega)]; omega⟩
theorem val2_spec {n : Nat} (h0 : 0 < n) : ∃ a, n = 2 ^ val2 n * (2 * a + 1) := val2_split n n (Nat.le_refl _) h0
theorem val2_mul : ∀ (k a : Nat), val2 (2 ^ k * (2 * a + 1)) = k
  | 0, a => by rw [val2_odd (by omega)]
  | k + 1, a => by
    have h : 0 < 2 ^ k * (2 * a + 1) := Nat.mul_pos (Nat.two_pow_pos k) (by omega)
    have e : 2 ^ (k + 1) * (2 * a + 1) = 2 * (2 ^ k * (2 * a + 1)) := by rw [Nat.pow_succ, Nat.mul_comm (2 ^ k) 2, Nat.mul_assoc]
    rw [e, val2_two h, val2_mul k a]
theorem val2_lt {n L : Nat} (h0 : 0 < n) (h : n < 2 ^ L) : val2 n < L := by
  obtain ⟨a, ha⟩ := val2_spec h0
  by_cases c : val2 n < L
  · exact c
  · have p : 2 ^ L ≤ 2 ^ val2 n := Nat.pow_le_pow_right (by decide) (by omega)
    have q : 2 ^ val2 n * 1 ≤ 2 ^ val2 n * (2 * a + 1) := Nat.mul_le_mul_left _ (by omega)
    omega
/-- the other letter -/
def oth (c : Nat) : Nat := if c = 114 then 108 else 114
def Lr (f : List Nat) : Prop := ∀ c ∈ f, c = 108 ∨ c = 114
/-- the place of a crease within its part -/
def plc (n : Nat) : Nat := n / 2 ^ val2 n / 2
/-- which way the crease n goes -/
def crs (f : List Nat) (n : Nat) : Nat := if plc n % 2 = 0 then f.getD (val2 n) 0 else oth (f.getD (val2 n) 0)
theorem plc_mul (k a : Nat) : plc (2 ^ k * (2 * a + 1)) = a := by
  unfold plc
  rw [val2_mul, Nat.mul_div_cancel_left _ (Nat.two_pow_pos k)]
  omega
theorem plc_odd {n : Nat} (h : n % 2 = 1) : plc n = n / 2 := by
  unfold plc
  rw [val2_odd h]
  omega
theorem plc_two {n : Nat} (h0 : 0 < n) : plc (2 * n) = plc n := by
  obtain ⟨a, ha⟩ := val2_spec h0
  have e : 2 * n = 2 ^ (val2 n + 1) * (2 * a + 1) := by
    rw [Nat.pow_succ, Nat.mul_comm (2 ^ _) 2, Nat.mul_assoc, ← ha]
  rw [e, plc_mul]
  conv => rhs; rw [ha]
  rw [plc_mul]
theorem crs_odd {c : Nat} {f : List Nat} {n : Nat} (h : n % 2 = 1) : crs (c :: f) n = if n / 2 % 2 = 0 then c else oth c := by
  unfold crs
  rw [plc_odd h, val2_odd h]
  rfl
theorem crs_two {c : Nat} {f : List Nat} {n : Nat} (h0 : 0 < n) : crs (c :: f) (2 * n) = crs f n := by
  unfold crs
  rw [plc_two h0, val2_two h0]
  rfl
theorem getD_lr {f : List Nat} (hf : Lr f) {i : Nat} (h : i < f.length) : f.getD i 0 = 108 ∨ f.getD i 0 = 114 := by
  rw [List.getD_eq_getElem?_getD, List.getElem?_eq_getElem h]
  exact hf _ (List.getElem_mem h)
/-- how many of the first m creases go left, as the program reckons it -/
def lft : List Nat → Nat → Nat
  | [], _ => 0
  | c :: f, m => (if c = 108 then (m + 1) / 2 + 1 else (m + 1) / 2) / 2 + lft f (m / 2)
theorem lft_zero : ∀ f : List Nat, lft f 0 = 0
  | [] => rfl
  | c :: f => by
    show (if c = 108 then 0 + 1 else 0) / 2 + lft f 0 = 0
    rw [lft_zero f]
    split <;> rfl
/-- a row of creases -/
def row (f : List Nat) (a m : Nat) : List Nat := (List.range m).map fun k => crs f (a + k)
theorem row_length (f : List Nat) (a m : Nat) : (row f a m).length = m := by simp [row]
theorem row_succ (f : List Nat) (a m : Nat) : row f a (m + 1) = row f a m ++ [crs f (a + m)] := by
  unfold row
  rw [List.range_succ, List.map_append]
  rfl
end Fc

namespace Fc
open PySem PySem.StrLaws PySem.Builtin PySem.Builtin.Str
theorem occ_run (x : PySem.Str) (c limit : Nat) : ∀ (m cur : Nat) (st : Array Nat × Nat), st.2 ≤ cur → cur + m = x.cps.toList.length + 1 → st.1.size + m ≤ limit →
    (forIn (List.range' cur m) st (occBody x ⟨#[c]⟩ x.length limit)).run.fst.size = st.1.size + (x.cps.toList.drop cur).count c
  | 0, cur, st, _, h, _ => by
    rw [List.drop_eq_nil_of_le (by omega)]
    rfl
  | m + 1, cur, st, h1, h2, h3 => by
    rw [List.range'_succ, List.forIn_cons]
    have one := subAt_one x c cur
    have ln : (⟨#[c]⟩ : PySem.Str).length = 1 := rfl
    unfold occBody
    by_cases hc : x.cps.toList[cur]? = some c
    · have hs := one.mpr hc
      obtain ⟨hl, hg⟩ := List.getElem?_eq_some_iff.mp hc
      rw [if_pos ⟨⟨⟨by omega, h1⟩, hs.1⟩, hs.2⟩]
      have ih := occ_run x c limit m (cur + 1) (st.1.push cur, cur + (⟨#[c]⟩ : PySem.Str).length) (by rw [ln]; exact Nat.le_refl _) (by omega) (by rw [Array.size_push]; omega)
      rw [List.drop_eq_getElem_cons hl, hg, List.count_cons_self]
      have e : (forIn (List.range' (cur + 1) m) (st.1.push cur, cur + (⟨#[c]⟩ : PySem.Str).length) (occBody x ⟨#[c]⟩ x.length limit)).run.fst.size = st.1.size + (1 + List.count c (List.drop (cur + 1) x.cps.toList)) := by
        rw [ih, Array.size_push]; omega
      rw [Nat.add_comm (List.count c _) 1]
      exact e
    · rw [if_neg (fun z => hc (one.mp ⟨z.1.2, z.2⟩))]
      have ih := occ_run x c limit m (cur + 1) st (by omega) (by omega) (by omega)
      have e : List.count c (List.drop cur x.cps.toList) = List.count c (List.drop (cur + 1) x.cps.toList) := by
        by_cases hl : cur < x.cps.toList.length
        · rw [List.drop_eq_getElem_cons hl, List.count_cons_of_ne]
          intro z
          exact hc (List.getElem?_eq_some_iff.mpr ⟨hl, z⟩)
        · rw [List.drop_eq_nil_of_le (by omega), List.drop_eq_nil_of_le (by omega)]
      rw [e]
      exact ih
theorem count_one (x : PySem.Str) (c : Nat) : (occurrences x ⟨#[c]⟩ 0 x.length (x.length + 1)).length = x.cps.toList.count c := by
  rw [occ_eq]
  have hx : x.cps.toList.length = x.length := by simp [PySem.Str.length]
  have h := occ_run x c (x.length + 1) (x.length + 1 - 0) 0 (#[], 0) (Nat.le_refl _) (by omega) (by simp)
  rw [List.drop_zero] at h
  rw [Array.length_toList, h]
  simp
end Fc

set_option Elab.async false
set_option linter.all false
set_option maxRecDepth 100000
namespace L2
open PySem PySem.Spec PyProof.Rows
section
variable {X : Cx}
theorem mt_count : MtR X "str.count" (fun x xs H Q => ∃ y z, x = .str y ∧ xs = [.str z] ∧ Q (.int (Txt.count y z)) H) := by
  intro pins s σ H x xs v us Q I rx rs h
  obtain ⟨y, z, rfl, rfl, q⟩ := h
  obtain ⟨t, rfl⟩ := rx
  obtain ⟨u, rfl, t', rfl⟩ := vals1 rs
  exact SC.count ⟨.int _, H, I.tok _, ⟨_, rfl⟩, q⟩
theorem mt_bits : MtR X "int.bit_length" (fun x xs H Q => ∃ i, x = .int i ∧ xs = [] ∧ Q (.int (Builtin.Int.intBits i : Nat)) H) := by
  intro pins s σ H x xs v us Q I rx rs h
  obtain ⟨i, rfl, rfl, q⟩ := h
  obtain ⟨t, rfl⟩ := rx
  cases rs
  exact call_int_bit_length ⟨.int _, H, I.tok _, ⟨_, rfl⟩, q⟩
theorem strsAre_of : ∀ {ys : List Str} {us : List Value}, Vals (ys.map V.str) us → StrsAre us ys
  | [], _, r => by cases r; exact .nil
  | y :: ys, _, r => by
    cases r with
    | cons r1 r2 =>
      obtain ⟨t, rfl⟩ := r1
      exact .cons y t (strsAre_of r2)
theorem mt_join : MtR X "str.join" (fun x xs H Q => ∃ sep p ys, x = .str sep ∧ xs = [.ref p] ∧ SqL X.K H p (ys.map V.str) ∧ (ys.map (·.length)).sum + ys.length * sep.length ≤ 16777216 ∧ Q (.str (Txt.join sep ys)) H) := by
  intro pins s σ H x xs v us Q I rx rs h
  obtain ⟨sep, p, ys, rfl, rfl, hq, hz, q⟩ := h
  obtain ⟨t, rfl⟩ := rx
  obtain ⟨u, rfl, r⟩ := vals1 rs
  cases r
  obtain ⟨its, rv, pl, _⟩ := I.list hq
  exact join_list pl.isList (by simpa using strsAre_of rv) hz fun t' k => ⟨.str _, H, I.tok _, ⟨_, rfl⟩, q⟩

inductive Consts : List Expr → List Int → Prop where
  | nil : Consts [] []
  | cons {i : Int} {j : Nat} {pos : Pos} {es : List Expr} {ns : List Int} (h : Consts es ns) : Consts (.Constant (.int i) j pos :: es) (i :: ns)
theorem pa_ints {X : Cx} {es : List Expr} {ns : List Int} (h : Consts es ns) : PA X es (fun _ H Q => Q (ns.map V.int) H) := by
  induction h with
  | nil => exact pa_nil
  | cons h ih => exact pa_cons pe_int ih
theorem call_isinst : CallR X (.builtin "isinstance") (fun xs H Q => ∃ x t c b, xs = [x, .ty c] ∧ TyOf X.K H x t ∧ PySem.W.kitOne X.K t (.type c) = some b ∧ Q (.bl b) H) := by
  intro pins s σ H xs us Q I rs h
  obtain ⟨x, t, c, b, rfl, ty, e, q⟩ := h
  obtain ⟨u, w', rfl, r1, r2⟩ := vals2 rs
  obtain rfl : w' = Value.type c := r2
  exact isinst_ok I r1 ty e fun tk => ⟨.bl b, H, I.tok _, rfl, q⟩
theorem pe_tab {d : Addr} {D : List (PyData × PyData)} {x : Str} {p pos : Pos} {b : Expr} {tb : TE} (hg : Gl X x) (hm : X.mg x = some (.ref d)) (hT : ∀ h : Heap, X.K.In h → StrTab X.prog X.w h d D) (hb : PE X b tb) (hs : PlainIx b)
    (hd : (x == ("__debug__" : Str)) = false := by decide) :
    PE X (.Subscript (.Name x p) b pos) (fun σ H Q => tb σ H fun y H1 => ∃ z r, y = .str z ∧ lookup (.str z) D = some (.str r) ∧ Q (.str r) H1) := by
  intro pins s σ H Q I h
  refine Subscript_ (thn (pe_glob (v := .ref d) hg hm rfl hd pins s σ H (fun v H1 => v = .ref d ∧ H1 = H) I ⟨rfl, rfl⟩) fun v s1 ⟨x1, H1, I1, r1, e1, e2⟩ => ?_)
  subst e1 e2
  obtain rfl : v = Value.ref d := r1
  refine thn (hb pins s1 σ _ _ I1 h) fun u s2 ⟨y, H2, I2, r2, z, r, e, hl, q⟩ => ?_
  subst e
  obtain ⟨t, rfl⟩ := r2
  refine item_strTab (hT _ I2.kIn) hl (fun v hv => ?_) (hs _ _) (fun _ => rfl)
  obtain ⟨t', rfl⟩ := hv.str_inv
  exact ⟨.str r, H2, I2.tok _, ⟨_, rfl⟩, q⟩

def Its (x : Str) : It := ⟨fun i _ => i < x.cps.size, fun i H v H' => H' = H ∧ ∃ c, x.cps[i]? = some c ∧ v = .str ⟨#[c]⟩, fun i _ => x.cps.size ≤ i⟩
theorem turn_str {P : Program} {w : World} {K : PySem.W.Frag} {tg : Expr} {ty : String} (hty : ty = "str_ascii_iterator" ∨ ty = "str_iterator") (x : Str) (t : Tok) (it : Addr) :
    Turn P w K tg (Its x) [it] it (fun i h => h.IsStrIter it ty x t i) where
  mem := by simp
  obj := fun i h st b hb => by
    have e : b = it := by simpa using hb
    subst e
    obtain ⟨o, e, c, d⟩ := st
    exact ⟨o, e, fun v z => by rw [d] at z; cases z⟩
  keep := fun i h h' st k => by
    obtain ⟨o, e, r⟩ := st
    exact ⟨o, k it (by simp) o e, r⟩
  item := by
    intro X hP hw hK hc i pins s σ H E I hf st hg
    subst hP hw hK
    obtain ⟨f0, f1, f2, f3, f4, f5⟩ := hf it (by simp)
    have hi : i < x.cps.size := hg
    have hx : x.cps[i]? = some x.cps[i] := by simp [hi]
    rcases hty with rfl | rfl
    · refine wpAny_pyNext_ascii_item st hx fun h' st' sb => ?_
      have I1 : Inv X pins σ H { s with heap := h', toks := s.toks + 1 } := I.turned (fun b o hb e => (sb.2 b hb).trans e) f0 f1 f3 f4 f5
      obtain ⟨o, e, c, d⟩ := id st'
      exact ⟨_, rfl, go_of (s := { s with heap := h', toks := s.toks + 1 }) e c d (by decide) ⟨.str ⟨#[x.cps[i]]⟩, H, I1, ⟨_, rfl⟩, ⟨rfl, _, hx, rfl⟩, st', fun b hb => (hf b hb).1⟩⟩
    · refine wpAny_pyNext_wide_item st hx fun h' st' sb => ?_
      have I1 : Inv X pins σ H { s with heap := h', toks := s.toks + 1 } := I.turned (fun b o hb e => (sb.2 b hb).trans e) f0 f1 f3 f4 f5
      obtain ⟨o, e, c, d⟩ := id st'
      exact ⟨_, rfl, go_of (s := { s with heap := h', toks := s.toks + 1 }) e c d (by decide) ⟨.str ⟨#[x.cps[i]]⟩, H, I1, ⟨_, rfl⟩, ⟨rfl, _, hx, rfl⟩, st', fun b hb => (hf b hb).1⟩⟩
  done := by
    intro X hP hw hK hc i pins s σ H E I hf st hg
    subst hP hw hK
    obtain ⟨f0, f1, f2, f3, f4, f5⟩ := hf it (by simp)
    have hi : x.cps.size ≤ i := hg
    have hx : x.cps[i]? = none := by simp [hi]
    rcases hty with rfl | rfl
    · exact wpAny_pyNext_ascii_end (I.ok.hd hc) st hx fun h' eb => ⟨rfl, I.turned (t' := s.toks) (fun b o hb e => eb b o hb e) f0 f1 f3 f4 f5⟩
    · exact wpAny_pyNext_wide_end (I.ok.hd hc) st hx fun h' eb => ⟨rfl, I.turned (t' := s.toks) (fun b o hb e => eb b o hb e) f0 f1 f3 f4 f5⟩
  self := fun _ _ _ _ _ st h => by
    rcases hty with rfl | rfl
    · exact wpAny_pyIter_striter_ascii st h
    · exact wpAny_pyIter_striter_wide st h
def iStr (tl : TE) : TI := fun σ H R => tl σ H fun v H1 => ∃ x, v = .str x ∧ R (Its x) H1
theorem strIter_or (x : Str) : strIterType x = "str_ascii_iterator" ∨ strIterType x = "str_iterator" := by
  unfold strIterType
  split
  · exact .inl rfl
  · exact .inr rfl
theorem pi_str {tg l : Expr} {tl : TE} (hl : PE X l tl) : PI X tg l (iStr tl) := by
  intro pins s σ H R I h
  refine thn (hl pins s σ H _ I h) fun v s1 ⟨x, H1, I1, r1, q1⟩ => ?_
  obtain ⟨y, e, q⟩ := q1
  subst e
  obtain ⟨t, rfl⟩ := r1
  refine wpAny_pyIter_strU ?_
  refine ⟨s1.heap.objs.size, [s1.heap.objs.size], _, _, H1, rfl, I1.kept (t' := s1.toks) fun b o e => Heap.get?_push_of_some _ e, turn_str (strIter_or y) y t _, ⟨_, Heap.get?_push_size _ rfl, rfl, rfl⟩, fun b hb => ?_, q⟩
  have e : b = s1.heap.objs.size := by simpa using hb
  subst e
  exact I1.fpOk (Nat.le_refl _) (I1.hok.fresh (Nat.le_refl _))
theorem for_str {x : Str} {g : TG} {tb : TS} {D : Ends} {σ : St} {H : Hp} (Pv : Nat → St → Hp → Prop) (h0 : Pv 0 σ H)
    (hs : ∀ i c σ H, x.cps.toList[i]? = some c → Pv i σ H → g (.str ⟨#[c]⟩) σ H fun σ2 H2 => tb { D with nx := Pv (i + 1), ct := Pv (i + 1), bk := D.nx } σ2 H2) (hd : ∀ σ H, Pv x.cps.toList.length σ H → D.nx σ H) :
    ∃ W : Nat → Nat → St → Hp → Prop, (∃ m, W 0 m σ H) ∧ ∀ i m σ H, W i m σ H →
      ((Its x).stop i H ∧ D.nx σ H) ∨ ((Its x).go i H ∧ ∃ N : St → Hp → Prop, (∀ σ' H', N σ' H' → ∃ m', m' < m ∧ W (i + 1) m' σ' H') ∧ ∀ y H', (Its x).yld i H y H' → g y σ H' fun σ2 H2 => tb { D with nx := N, ct := N, bk := D.nx } σ2 H2) := by
  have hsz : x.cps.toList.length = x.cps.size := by simp
  refine ⟨fun i m σ H => m = x.cps.size - i ∧ i ≤ x.cps.size ∧ Pv i σ H, ⟨x.cps.size, by simp, Nat.zero_le _, h0⟩, ?_⟩
  rintro i m σ H ⟨rfl, hi, p⟩
  by_cases hlt : i < x.cps.size
  · refine .inr ⟨hlt, Pv (i + 1), fun σ' H' p' => ⟨x.cps.size - (i + 1), by omega, rfl, hlt, p'⟩, fun y H' q => ?_⟩
    obtain ⟨e, c, hc, rfl⟩ := q
    subst e
    exact hs i c σ _ (by simpa using hc) p
  · have e : i = x.cps.toList.length := by omega
    subst e
    exact .inl ⟨by show x.cps.size ≤ _; omega, hd σ H p⟩

theorem turn_long {P : Program} {w : World} {K : PySem.W.Frag} {tg : Expr} (it : Addr) (lo : Int) (n : Nat) : Turn P w K tg (Itr lo n) [it] it (fun i h => IsLongIter h it (lo + (i : Nat)) ((n : Int) - (i : Nat)) 1) where
  mem := by simp
  obj := fun i h st b hb => by
    have e : b = it := by simpa using hb
    subst e
    exact ⟨_, st, fun v z => by
      have z' : Data.fields _ = Data.cell v := z
      cases z'⟩
  keep := fun i h h' st k => k it (by simp) _ st
  item := by
    intro X hP hw hK hc i pins s σ H E I hf st hg
    subst hP hw hK
    have hi : i < n := hg
    obtain ⟨f0, f1, f2, f3, f4, f5⟩ := hf it (by simp)
    refine wpAny_pyNext_long_item st (by omega) fun h' st' sb => ?_
    have I1 : Inv X pins σ H { s with heap := h', toks := s.toks + 1 } := I.turned (fun b o hb e => (sb.2 b hb).trans e) f0 f1 f3 f4 f5
    have e1 : lo + (i : Int) + 1 = lo + ((i + 1 : Nat) : Int) := by omega
    have e2 : (n : Int) - (i : Int) - 1 = (n : Int) - ((i + 1 : Nat) : Int) := by omega
    rw [e1, e2] at st'
    exact ⟨_, rfl, go_of (s := { s with heap := h', toks := s.toks + 1 }) (n := "longrange_iterator") st' rfl rfl (by decide) ⟨.int (lo + i), H, I1, ⟨_, rfl⟩, ⟨rfl, rfl⟩, st', fun b hb => (hf b hb).1⟩⟩
  done := by
    intro X hP hw hK hc i pins s σ H E I hf st hg
    subst hP hw hK
    obtain ⟨f0, f1, f2, f3, f4, f5⟩ := hf it (by simp)
    exact wpAny_pyNext_long_end (I.ok.hd hc) st (by have : n ≤ i := hg; omega) fun h' eb => ⟨rfl, I.turned (t' := s.toks) (fun b o hb e => eb b o hb e) f0 f1 f3 f4 f5⟩
  self := fun _ _ _ _ _ st h => wpAny_pyIter_slot ⟨_, st, rfl⟩ PySem.F.slot_longrange_iterator_iter (wpAny_call_entry PySem.F.slot_longrange_iterator_iter ⟨_, st, rfl⟩ PySem.F.entry_longrange_iterator_iter
    (wpAny_pure ⟨_, rfl, "longrange_iterator", _, ⟨_, st, rfl⟩, PySem.F.slot_longrange_iterator_next.lookup, h⟩) (PySem.F.args_longrange_iterator_iter_1 _))
theorem range_any {tg : Expr} {pins : List (Addr × Obj)} {σ : St} {H : Hp} {s : Shared} {R : It → Hp → Prop} {E : Value → Shared → Prop} {lo hi : Int} {t u v : Tok} {tk : Nat} (I : Inv X pins σ H s)
    (q : R (Itr lo (hi - lo).toNat) H) : wpAny (model X.prog X.w) X.A (pyIter (.ref s.heap.objs.size)) (PIE X pins σ tg R) E { s with heap := s.heap.push { cls := .type "range", data := .fields #[.int lo t, .int hi u, .int 1 v] }, toks := tk } := by
  have I1 : Inv X pins σ H { s with heap := s.heap.push { cls := .type "range", data := .fields #[.int lo t, .int hi u, .int 1 v] }, toks := tk } := I.kept fun b o e => Heap.get?_push_of_some _ e
  have fpo : ∀ b ∈ [(s.heap.push { cls := .type "range", data := .fields #[.int lo t, .int hi u, .int 1 v] }).objs.size], FpOk X pins H b := fun b hb => by
    have e : b = (s.heap.push { cls := .type "range", data := .fields #[.int lo t, .int hi u, .int 1 v] }).objs.size := by simpa using hb
    subst e
    exact I1.fpOk (Nat.le_refl _) (I1.hok.fresh (Nat.le_refl _))
  have e2 : (((hi - lo).toNat : Nat) : Int) - ((0 : Nat) : Int) = Builtin.Range.rangeSize lo hi 1 := by rw [rangeSize_one]; split <;> omega
  cases hsm : Builtin.Range.small lo hi 1 with
  | true =>
    refine wpAny_pyIter_range (IsRange.new ..) hsm ?_
    refine ⟨_, _, _, _, H, rfl, I1.kept (t' := tk) fun b o e => Heap.get?_push_of_some _ e, turn_range _ lo (hi - lo).toNat, ?_, fpo, q⟩
    have e1 : lo + ((0 : Nat) : Int) * 1 = lo := by simp
    show IsRangeIter _ _ (lo + ((0 : Nat) : Int) * 1) ((((hi - lo).toNat : Nat) : Int) - ((0 : Nat) : Int)) 1
    rw [e1, e2]
    exact Heap.get?_push_size _ rfl
  | false =>
    refine wpAny_pyIter_longrange (IsRange.new ..) hsm ?_
    refine ⟨_, _, _, _, H, rfl, I1.kept (t' := tk) fun b o e => Heap.get?_push_of_some _ e, turn_long _ lo (hi - lo).toNat, ?_, fpo, q⟩
    have e1 : lo + ((0 : Nat) : Int) = lo := by simp
    show IsLongIter _ _ (lo + ((0 : Nat) : Int)) ((((hi - lo).toNat : Nat) : Int) - ((0 : Nat) : Int)) 1
    rw [e1, e2]
    exact Heap.get?_push_size _ rfl
def iRngA1 (ta : TA) : TI := fun σ H R => ta σ H fun vs H1 => ∃ j : Int, vs = [.int j] ∧ R (Itr 0 j.toNat) H1
def iRngA2 (ta : TA) : TI := fun σ H R => ta σ H fun vs H1 => ∃ i j : Int, vs = [.int i, .int j] ∧ R (Itr i (j - i).toNat) H1
theorem pi_rngA1 {tg a : Expr} {ta : TA} {p pos : Pos} (hg : Gl X "range") (hm : X.mg "range" = none) (ha : PA X [a] ta) (hs : starEach [a] X.env = [(false, eval a X.env)] := by rfl) : PI X tg (.Call (.Name "range" p) [a] [] pos) (iRngA1 ta) := by
  intro pins s σ H R I h
  refine Call_ (ld_blt I hg hm boot_range (PyProof.Rows.callWith_type1 (thn (ha pos pins s σ H _ I h) fun us s1 ⟨vs, H1, I1, r1, q1⟩ => ?_) hs rfl))
  obtain ⟨j, e, q⟩ := q1
  subst e
  cases r1 with
  | cons r rr =>
    cases rr
    obtain ⟨t, rfl⟩ := r
    exact call_range_1 (range_any I1 (by simpa using q))
theorem pi_rngA2 {tg a b : Expr} {ta : TA} {p pos : Pos} (hg : Gl X "range") (hm : X.mg "range" = none) (ha : PA X [a, b] ta) (hs : starEach [a, b] X.env = [(false, eval a X.env), (false, eval b X.env)] := by rfl) (hs2 : starEach [b] X.env = [(false, eval b X.env)] := by rfl) :
    PI X tg (.Call (.Name "range" p) [a, b] [] pos) (iRngA2 ta) := by
  intro pins s σ H R I h
  refine Call_ (ld_blt I hg hm boot_range (PyProof.Rows.callWith_type1 (thn (ha pos pins s σ H _ I h) fun us s1 ⟨vs, H1, I1, r1, q1⟩ => ?_) (by rw [hs, hs2]) (by rw [hs2]; rfl)))
  obtain ⟨i, j, e, q⟩ := q1
  subst e
  cases r1 with
  | cons r rr =>
    cases rr with
    | cons r' rr =>
      cases rr
      obtain ⟨t, rfl⟩ := r
      obtain ⟨t', rfl⟩ := r'
      exact call_range_2 (range_any I1 q)

end
end L2

namespace L2
open PySem PySem.Spec PyProof.Rows
/-- what a block closes over -/
def closR (cells : List (Str × Addr)) : List (Str × NameKind) → List (Str × Addr) → List (Str × Addr)
  | [], cs => cs
  | (n, k) :: r, cs => closR cells r (if k == .free then (n, (cells.lookup n).getD 0) :: cs else cs)
theorem closureFor_eq {sc : Scope} {env : Env} (h : ∀ y ∈ sc.names, y.2 = .free → ∃ c, env.cells.lookup y.1 = some c) : closureFor sc env = pure (closR env.cells sc.names []) := by
  have key : ∀ (l : List (Str × NameKind)) (cs : List (Str × Addr)), (∀ y ∈ l, y.2 = .free → ∃ c, env.cells.lookup y.1 = some c) →
      (forIn l cs (fun x r => if (x.2 == NameKind.free) = true then (do let a ← cellOf env x.1; pure (ForInStep.yield ((x.1, a) :: r))) else pure (ForInStep.yield r)) : Sem (List (Str × Addr))) = pure (closR env.cells l cs) := by
    intro l
    induction l with
    | nil => intro cs _; rfl
    | cons x r ih =>
      intro cs hx
      obtain ⟨n, k⟩ := x
      rw [List.forIn_cons]
      by_cases hk : k = .free
      · subst hk
        obtain ⟨c, hc⟩ := hx (n, .free) List.mem_cons_self rfl
        have e : cellOf env n = pure c := by unfold cellOf; rw [show env.cells.lookup n = some c from hc]
        have q := ih ((n, c) :: cs) fun y hy => hx y (List.mem_cons_of_mem _ hy)
        show ((do let a ← cellOf env n; pure (ForInStep.yield ((n, a) :: cs))) >>= _ : Sem _) = pure (closR env.cells r ((n, (env.cells.lookup n).getD 0) :: cs))
        rw [e, show env.cells.lookup n = some c from hc]
        exact q
      · have hb : (k == NameKind.free) = false := by simpa using hk
        have q := ih cs fun y hy => hx y (List.mem_cons_of_mem _ hy)
        show ((if (k == NameKind.free) = true then (do let a ← cellOf env n; pure (ForInStep.yield ((n, a) :: cs))) else pure (ForInStep.yield cs)) >>= _ : Sem _) = pure (closR env.cells r (if (k == NameKind.free) = true then (n, (env.cells.lookup n).getD 0) :: cs else cs))
        rw [hb]
        exact q
  have k := key sc.names [] h
  unfold closureFor
  show (forIn sc.names [] (fun x r => if (x.2 == NameKind.free) = true then (do let a ← cellOf env x.1; pure (ForInStep.yield ((x.1, a) :: r))) else pure (ForInStep.yield r)) >>= fun s => pure s : Sem (List (Str × Addr))) = _
  rw [k]
  rfl
theorem closR_keep {cells : List (Str × Addr)} {y : Str} {v : Addr} (hv : (cells.lookup y).getD 0 = v) : ∀ (l : List (Str × NameKind)) (cs : List (Str × Addr)), cs.lookup y = some v → (closR cells l cs).lookup y = some v
  | [], _, h => h
  | (n, k) :: r, cs, h => by
    unfold closR
    refine closR_keep hv r _ ?_
    split
    · rw [List.lookup_cons]
      by_cases e : (y == n) = true
      · rw [e]
        have e' : y = n := beq_iff_eq.mp e
        subst e'
        exact congrArg some hv
      · rw [Bool.eq_false_iff.mpr e]
        exact h
    · exact h
theorem closR_has {cells : List (Str × Addr)} {y : Str} {v : Addr} (hv : cells.lookup y = some v) : ∀ (l : List (Str × NameKind)) (cs : List (Str × Addr)), (y, NameKind.free) ∈ l → (closR cells l cs).lookup y = some v
  | [], _, h => by simp at h
  | (n, k) :: r, cs, h => by
    unfold closR
    rcases List.mem_cons.mp h with e | e
    · cases e
      refine closR_keep (v := v) (by rw [hv]; rfl) r _ ?_
      rw [if_pos (by rfl), List.lookup_cons, beq_self_eq_true, hv]
      rfl
    · exact closR_has hv r _ e
theorem closR_of {cells : List (Str × Addr)} {y : Str} {v : Addr} : ∀ (l : List (Str × NameKind)) (cs : List (Str × Addr)), (closR cells l cs).lookup y = some v → ((y, NameKind.free) ∈ l ∧ v = (cells.lookup y).getD 0) ∨ cs.lookup y = some v
  | [], _, h => .inr h
  | (n, k) :: r, cs, h => by
    unfold closR at h
    rcases closR_of r _ h with ⟨a, b⟩ | a
    · exact .inl ⟨List.mem_cons_of_mem _ a, b⟩
    · split at a
      · rename_i hk
        have hk' : k = .free := beq_iff_eq.mp hk
        subst hk'
        rw [List.lookup_cons] at a
        by_cases e : (y == n) = true
        · rw [e] at a
          have e' : y = n := beq_iff_eq.mp e
          subst e'
          exact .inl ⟨List.mem_cons_self, (Option.some.inj a).symm⟩
        · rw [Bool.eq_false_iff.mpr e] at a
          exact .inr a
      · exact .inr a
theorem relabel_free {env : Env} {y : Str} : ∀ {names : List (Str × NameKind)}, names.lookup y = some .free →
    (names.map fun (n, k) => if (k == NameKind.free && env.scope.kind == .function && env.kindOf n == some .cell) then (n, NameKind.cell) else (n, k)).lookup y = some .cell ∨
    (names.map fun (n, k) => if (k == NameKind.free && env.scope.kind == .function && env.kindOf n == some .cell) then (n, NameKind.cell) else (n, k)).lookup y = some .free
  | [], h => by simp at h
  | (n, k) :: r, h => by
    have ih := @relabel_free env y r
    rw [List.map_cons]
    by_cases e : (y == n) = true
    · rw [List.lookup_cons, e] at h
      cases h
      by_cases hc : (NameKind.free == NameKind.free && env.scope.kind == .function && env.kindOf n == some .cell) = true
      · exact .inl (by show List.lookup y ((if _ then _ else _) :: _) = _; rw [if_pos hc, List.lookup_cons, e])
      · exact .inr (by show List.lookup y ((if _ then _ else _) :: _) = _; rw [if_neg hc, List.lookup_cons, e])
    · have e' := Bool.eq_false_iff.mpr e
      rw [List.lookup_cons, e'] at h
      by_cases hc : (k == NameKind.free && env.scope.kind == .function && env.kindOf n == some .cell) = true
      · show List.lookup y ((if _ then _ else _) :: _) = _ ∨ List.lookup y ((if _ then _ else _) :: _) = _
        rw [if_pos hc, List.lookup_cons, e']
        exact ih h
      · show List.lookup y ((if _ then _ else _) :: _) = _ ∨ List.lookup y ((if _ then _ else _) :: _) = _
        rw [if_neg hc, List.lookup_cons, e']
        exact ih h
theorem relabel_back {env : Env} {y : Str} : ∀ {names : List (Str × NameKind)},
    ((names.map fun (n, k) => if (k == NameKind.free && env.scope.kind == .function && env.kindOf n == some .cell) then (n, NameKind.cell) else (n, k)).lookup y = some .cell ∨
      (names.map fun (n, k) => if (k == NameKind.free && env.scope.kind == .function && env.kindOf n == some .cell) then (n, NameKind.cell) else (n, k)).lookup y = some .free) →
    (∀ z ∈ names, z.2 ≠ .cell) → (y, NameKind.free) ∈ names
  | [], h, _ => by simp at h
  | (n, k) :: r, h, hc => by
    have ih := @relabel_back env y r
    rw [List.map_cons] at h
    by_cases hb : (k == NameKind.free && env.scope.kind == .function && env.kindOf n == some .cell) = true
    · have h' := h
      simp only [hb, if_true] at h'
      rw [List.lookup_cons] at h'
      by_cases e : (y == n) = true
      · have e' : y = n := beq_iff_eq.mp e
        have hk : k = .free := by
          have z : (k == NameKind.free) = true := by
            cases hk : (k == NameKind.free) with
            | true => rfl
            | false => rw [hk] at hb; simp at hb
          exact beq_iff_eq.mp z
        subst e' hk
        exact List.mem_cons_self
      · rw [Bool.eq_false_iff.mpr e] at h'
        exact List.mem_cons_of_mem _ (ih h' fun z hz => hc z (List.mem_cons_of_mem _ hz))
    · have h' := h
      simp only [hb, if_false, Bool.false_eq_true] at h'
      rw [List.lookup_cons] at h'
      by_cases e : (y == n) = true
      · rw [e] at h'
        have e' : y = n := beq_iff_eq.mp e
        subst e'
        rcases h' with z | z
        · cases z
          exact absurd rfl (hc (y, .cell) List.mem_cons_self)
        · cases z
          exact List.mem_cons_self
      · rw [Bool.eq_false_iff.mpr e] at h'
        exact List.mem_cons_of_mem _ (ih h' fun z hz => hc z (List.mem_cons_of_mem _ hz))

/-- the context of a comprehension's block -/
def compCx (X : Cx) (sc : Scope) (cl : List (Str × Addr)) (C : Addr) (N : List Str) (fp : List Addr) (s : Shared) (H : Hp) : Cx :=
  { X with N := N, s₀ := s, H₀ := H, env := compEnvC sc cl C X.env, outer := X.stack, stack := X.stack, ex := fp, fn := fun _ => false, pn := [], xe := fun _ _ => False }
/-- the values of the names that the block closes over -/
def frees (ix : List Nat) (σ : St) : St := ix.map fun j => (σ[j]?).getD none
/-- a comprehension over J whose list stands at p: an invariant W with a falling number -/
def CompP (J : It) (te : TE) (ρ : St) (p : Addr) (Q : VK) (H1 : Hp) : Prop :=
  ∃ W : Nat → Nat → List V → Hp → Prop, (∃ m, W 0 m [] (upd H1 p (.lst []))) ∧ ∀ i m ys H2, W i m ys H2 → H2 p = some (.lst ys) ∧
    ((J.stop i H2 ∧ Q (.ref p) H2) ∨ (J.go i H2 ∧ ys.length < sizeLine ∧ ∃ N : List V → Hp → Prop, (∀ zs H', N zs H' → ∃ m', m' < m ∧ W (i + 1) m' zs H') ∧
      ∀ x H3, J.yld i H2 x H3 → te (some x :: ρ) H3 fun y H4 => H4 p = some (.lst ys) ∧ N (ys ++ [y]) (upd H4 p (.lst (ys ++ [y])))))
def tComp (wi : TI) (te : TE) (ix : List Nat) : TE := fun σ H Q => wi σ H fun J H1 => ∀ p, H1 p = none → CompP J te (frees ix σ) p Q H1

theorem compLoop_go {prog : Program} {w : World} {A : Around} {R : Result → Shared → Prop} {s : Shared} {elt target iter : Expr} {scope : Scope} {pos : Pos} {it acc : Value} {env : Env} (I : Nat → Shared → Prop)
    (turn : ∀ n s, I n s → wpAny (model prog w) A (pyNext it) (fun r s₁ => match r with
      | none => R (.ok .next) s₁
      | some v => wpAny (model prog w) A (letOwnedTupleGo target it v) (fun _ s₂ => wpAny (model prog w) A (assign target env v) (fun _ s₂ => wpAny (model prog w) A (eval elt env) (fun x s₃ =>
          wpAny (model prog w) A (call (.builtin "list.append") [acc, x]) (fun _ s₄ => ∃ m, m < n ∧ I m s₄) (fun _ _ => False) s₃)
          (fun _ _ => False) s₂) (fun _ _ => False) s₂) (fun _ _ => False) s₁) (fun _ _ => False) s)
    (n : Nat) (h : I n s) :
    codeAny (model prog w) A (.compLoop (.ListComp elt [⟨target, iter, [], 0⟩] scope pos) 0 it acc env) R s := by
  refine codeAny_loop rfl I (fun n s hI => ?_) n h
  show wpAny _ _ ((compTurn (.ListComp elt [⟨target, iter, [], 0⟩] scope pos) 0 it acc env).onRaise (fun x => do noteFrame x env; theTreesLotGoes x)) _ _ s
  refine wpAny_noted ?_
  rw [compTurn_list1]
  refine wpAny_bind (wpAny_standAt (wpAny_bind (wpAny_mono (turn n s hI) (fun r s₁ h₁ => ?_) fun _ _ h' => h'.elim)))
  cases r with
  | none => exact wpAny_pure h₁
  | some v =>
    refine wpAny_bind (wpAny_mono h₁ (fun _ s₂ h₂ => ?_) fun _ _ h' => h'.elim)
    exact wpAny_bind (wpAny_mono h₂ (fun _ s₂ h₂ => wpAny_bind (wpAny_bind (wpAny_mono h₂ (fun x s₃ h₃ => wpAny_bind (wpAny_mono h₃
      (fun _ s₄ h₄ => wpAny_pure (wpAny_pure ⟨rfl, h₄⟩)) fun _ _ h' => h'.elim)) fun _ _ h' => h'.elim))) fun _ _ h' => h'.elim)

section
variable {X : Cx}
theorem frees_get {ix : List Nat} {σ : St} {j : Nat} {v : V} (h : (frees ix σ)[j]? = some (some v)) : ∃ i, ix[j]? = some i ∧ σ[i]? = some (some v) := by
  unfold frees at h
  rw [List.getElem?_map] at h
  cases e : ix[j]? with
  | none => rw [e] at h; cases h
  | some i =>
    rw [e] at h
    have h' : (σ[i]?).getD none = some v := Option.some.inj h
    refine ⟨i, rfl, ?_⟩
    cases e2 : σ[i]? with
    | none => rw [e2] at h'; cases h'
    | some o => rw [e2] at h'; exact congrArg some h'
theorem pe_comp {elt iter : Expr} {x : Str} {px pos : Pos} {sc : Scope} {fr : List Str} {ix : List Nat} {wi : TI} {te : TE}
    (hcalm : X.calm = true) (hi : PI X (.Name x px) iter wi)
    (helt : ∀ (cl : List (Str × Addr)) (C : Addr) (fp : List Addr) (s : Shared) (H : Hp), PE (compCx X sc cl C (x :: fr) fp s H) elt te)
    (hnd : (x :: fr).Nodup) (hix : ix.map (fun i => X.N[i]?) = fr.map some)
    (hkind : sc.kind = .function) (hcell : ∀ y ∈ sc.names, y.2 ≠ .cell) (hnames : ∀ y ∈ sc.names, y.2 = .local → sc.names.lookup y.1 = some .local)
    (hx : sc.names.lookup x = some .local) (hfr : ∀ y ∈ fr, sc.names.lookup y = some .free)
    (hob : (sc.names.all fun y => !(y.2 == .free) || (X.env.kindOf y.1 == some .cell || X.env.kindOf y.1 == some .free)) = true)
    (hs : ∀ v, foldedSetIterable iter X.env v = pure v := by intro _; rfl) :
    PE X (.ListComp elt [⟨.Name x px, iter, [], 0⟩] sc pos) (tComp wi te ix) := by
  have hout : ∀ y ∈ sc.names, y.2 = .free → X.env.kindOf y.1 = some .cell ∨ X.env.kindOf y.1 = some .free := fun y hy hf => by
    have z := List.all_eq_true.mp hob y hy
    rw [hf] at z
    simpa using z
  intro pins s σ H Q I h
  have hcl : ∀ y ∈ sc.names, y.2 = .free → ∃ c, X.env.cells.lookup y.1 = some c := fun y hy hf => I.ok.has y.1 (hout y hy hf)
  have hlen : ix.length = fr.length := by simpa using congrArg List.length hix
  rw [eval_ListComp]
  refine wpAny_comprehension_free (cl := closR X.env.cells sc.names []) rfl hs (closureFor_eq hcl) hkind hnames ?_
  refine thn (hi pins s σ H _ I h) fun v s1 h1 => thn h1 fun itv s2 h2 => ?_
  obtain ⟨it, fp, tn, J, H2, rfl, I2, T, st2, f2, q⟩ := h2
  -- the cells that the block closes over are the function's
  have clOf : ∀ y c, (closR X.env.cells sc.names []).lookup y = some c → X.env.cells.lookup y = some c := fun y c e => by
    rcases closR_of _ _ e with ⟨hm, e2⟩ | e2
    · obtain ⟨d, hd⟩ := hcl _ hm rfl
      rw [show X.env.cells.lookup y = some d from hd] at e2
      rw [show X.env.cells.lookup y = some d from hd, e2]
      rfl
    · simp at e2
  have clHas : ∀ y, (y, NameKind.free) ∈ sc.names → ∃ c, X.env.cells.lookup y = some c ∧ (closR X.env.cells sc.names []).lookup y = some c := fun y hm => by
    obtain ⟨c, hc⟩ := hcl _ hm rfl
    exact ⟨c, hc, closR_has hc _ _ hm⟩
  refine wpAny_newObj_type (wpAny_newFunctionEnv hcell (by intro y hy; simp at hy) (fun h₁ hns₁ hsb₁ => ?_) hkind)
  dsimp only at hns₁ hsb₁ ⊢
  generalize hH3 : s2.heap.push { cls := .type "list", dict := none, data := .seq ([] : List Value).toArray } = H3 at hns₁ hsb₁ ⊢
  have hC : H3.objs.size = s2.heap.objs.size + 1 := by rw [← hH3, Heap.size_push]
  have fresh2 : H2 s2.heap.objs.size = none := I2.hok.fresh (Nat.le_refl _)
  have I3 : Inv X pins σ (upd H2 s2.heap.objs.size (.lst [])) { s2 with heap := H3 } := by
    rw [← hH3]
    exact I2.laid (t' := s2.toks) (fun b u e => Heap.get?_push_of_some _ e) (Nat.le_refl _) ⟨Nat.zero_le _, [], 0, .nil, Heap.get?_push_size _ rfl⟩
  have keep1 : ∀ b o, H3.get? b = some o → h₁.get? b = some o := fun b o e => by
    rw [hsb₁.2 b (Nat.ne_of_lt (Heap.lt_size e))]
    exact Heap.get?_push_of_some _ e
  have keep0 : ∀ b o, s2.heap.get? b = some o → H3.get? b = some o := fun b o e => by
    rw [← hH3]
    exact Heap.get?_push_of_some _ e
  have fpLt : ∀ b ∈ fp, b < s2.heap.objs.size := fun b hb => by
    obtain ⟨o, e, _⟩ := T.obj _ _ st2 b hb
    exact Heap.lt_size e
  have freshC : upd H2 s2.heap.objs.size (.lst []) H3.objs.size = none := I3.hok.fresh (Nat.le_refl _)
  have stk : ∀ b ∈ fp, b ∉ frs X.stack := fun b hb z => by
    rcases List.mem_cons.mp (I2.stkSub b z) with e | e
    · exact (f2 b hb).2.1 e
    · exact (f2 b hb).2.2.1 e
  -- the block's context and its start
  let X' := compCx X sc (closR X.env.cells sc.names []) H3.objs.size (x :: fr) fp { s2 with heap := H3 } (upd H2 s2.heap.objs.size (.lst []))
  have ok' : X'.Ok := by
    refine ⟨I.ok.mod, hkind, I.ok.glob, I.ok.blt, Nat.le_refl _, fun y z c e1 e2 => I.ok.inj y z c (clOf y c e1) (clOf z c e2), fun y hy => ?_, fun y c e => ?_, I.ok.hd, I.ok.frames, .inl rfl, fun b hb => ⟨?_, fun y c e => ?_⟩,
      I3.bs, Nat.le_trans I.ok.bsz I3.sz, fun b o e hb => ?_, stk, I3.stack, I3.stkFree⟩
    · obtain ⟨c, _, hc⟩ := clHas y (relabel_back (env := X.env) hy hcell)
      exact ⟨c, hc⟩
    · exact absurd (show false = true from e) (by decide)
    · exact Nat.ne_of_lt (Nat.lt_of_lt_of_le (fpLt b hb) (by show s2.heap.objs.size ≤ H3.objs.size; omega))
    · exact (f2 b hb).2.2.2.2.1 y c (clOf y c e)
    · rcases (f2 b hb).2.2.2.1 with z | z
      · exact I.ok.noex b o e z
      · have := (I.ok.bs b o e).1
        exact absurd (Nat.lt_of_lt_of_le (Heap.lt_size this) z) (Nat.lt_irrefl _)
  have I4 : Inv X' [] (none :: frees ix σ) (upd H2 s2.heap.objs.size (.lst [])) { s2 with heap := h₁, toks := s2.toks + ([] : List (Str × Value)).length } := by
    refine ⟨ok', rfl, I2.bare, Un.kept keep1, ⟨_, hns₁, fun i y v e1 e2 e3 => ?_⟩, fun y c e => ?_, freshC, fun y c e => ?_, fun p hp => absurd (show p ∈ ([] : List (Addr × Obj)) from hp) (by simp), I3.hok.kept keep1, ?_⟩
    · cases i with
      | zero => simp at e2
      | succ j =>
        obtain ⟨i0, hi0, hs0⟩ := frees_get (by simpa using e2)
        have hy : fr[j]? = some y := by simpa [X', compCx] using e1
        have hN : X.N[i0]? = some y := by
          have z := congrArg (fun l => l[j]?) hix
          simp only [List.getElem?_map, hi0, hy, Option.map_some] at z
          exact Option.some.inj z
        have hfree := hfr y (List.mem_of_getElem? hy)
        have hmem : (y, NameKind.free) ∈ sc.names := PySem.mem_of_lookup hfree
        have hk := hout _ hmem rfl
        obtain ⟨m, hn, hl⟩ := I2.loc
        obtain ⟨u, ru, lk⟩ := hl i0 y v hN hs0 (by
          rcases hk with hk | hk
          · exact .inr (.inl hk)
          · exact .inr (.inr hk))
        refine ⟨u, ru, .inr ⟨relabel_free (env := X.env) hfree, ?_⟩⟩
        obtain ⟨c, hc1, hc2⟩ := clHas y hmem
        refine ⟨c, hc2, ?_⟩
        rcases lk with ⟨k, _⟩ | ⟨_, d, hd, o, ho, hod⟩
        · rcases hk with hk | hk
          · rw [hk] at k; cases k
          · rw [hk] at k; cases k
        · rw [hc1] at hd
          cases hd
          exact ⟨o, keep1 _ _ (keep0 _ _ ho), hod⟩
    · obtain ⟨v, o, ho, hod⟩ := I2.cell y c (clOf y c e)
      exact ⟨v, o, keep1 _ _ (keep0 _ _ ho), hod⟩
    · have e' := clOf y c e
      obtain ⟨v, o, ho, hod⟩ := I2.cell y c e'
      rw [upd_ne (Nat.ne_of_lt (Heap.lt_size ho))]
      exact I2.freeC y c e'
    · show (none :: frees ix σ).length = (x :: fr).length
      unfold frees
      rw [List.length_cons, List.length_map, List.length_cons, hlen]
  -- the end of the block
  have fin : ∀ {σ' : St} {H' : Hp} {s' : Shared}, Inv X' [] σ' H' s' → Q (.ref s2.heap.objs.size) H' →
      compPost (model X.prog X.w) X.A X.xe none (EP X pins σ Q) (.ref s2.heap.objs.size) H3.objs.size (.ok .next) s' := fun {σ' H' s'} I' q' => by
    obtain ⟨m, hn, _⟩ := id I'.loc
    refine ⟨m, hn, fun h' sb => ⟨.ref s2.heap.objs.size, H', ?_, rfl, q'⟩⟩
    have U1 : Un (frs X.stack) fp H2 H' s2.heap s'.heap := Un.trans (Un.laid keep0 (Nat.le_refl _) fresh2) I'.base
    have neC : ∀ b o, s2.heap.get? b = some o → b ≠ H3.objs.size := fun b o e => Nat.ne_of_lt (Nat.lt_of_lt_of_le (Heap.lt_size e) (by omega))
    have hCfree : H' H3.objs.size = none := I'.free
    refine I2.call' (s' := { s' with heap := h' }) (ch := fp) I'.os ⟨fun b o e n hb hx => ?_, fun b o e n hb hx => ?_, U1.free, fun b o e hx => ?_, U1.tups, U1.frzs, U1.tbls⟩ (fun b u e => ?_) I'.bare (fun b hb => ?_)
    · exact (sb.2 b (neC b o e)).trans (U1.keep b o e n hb hx)
    · obtain ⟨sl, e1⟩ := U1.slot b o e n hb hx
      exact ⟨sl, (sb.2 b (neC b o e)).trans e1⟩
    · obtain ⟨o', e1⟩ := U1.there b o e hx
      exact ⟨o', (sb.2 b (neC b o e)).trans e1⟩
    · refine (I'.hok b u e).stay (fun c v hc qv => (sb.2 c (fun z => ?_)).trans qv) (fun _ z => z) fun _ _ z => z
      subst z
      rcases hc with z | z
      · rw [← z, hCfree] at e
        cases e
      · rw [hCfree] at z
        cases z
    · obtain ⟨_, f1, _, f3, f4, f5⟩ := f2 b hb
      exact ⟨f3, f1, f4, f5⟩
  obtain ⟨W, ⟨m0, w0⟩, turn⟩ := q _ fresh2
  have stat : ∀ {H' : Hp}, (∀ b ∈ fp, H' b = none) → ∀ b ∈ fp, FpOk X' [] H' b := fun hn b hb =>
    ⟨hn b hb, (ok'.exf b hb).1, stk b hb, .inl hb, (ok'.exf b hb).2, fun p hp => absurd (show p ∈ ([] : List (Addr × Obj)) from hp) (by simp)⟩
  have fr4 : ∀ b ∈ fp, upd H2 s2.heap.objs.size (.lst []) b = none := fun b hb => by
    rw [upd_ne (Nat.ne_of_lt (fpLt b hb))]
    exact (f2 b hb).1
  have st4 : tn 0 h₁ := T.keep _ _ _ st2 fun b _ o e => keep1 _ _ (keep0 _ _ e)
  have loop : codeAny (model X.prog X.w) X.A (.compLoop (.ListComp elt [⟨.Name x px, iter, [], 0⟩] sc pos) 0 (.ref it) (.ref s2.heap.objs.size) X'.env)
      (compPost (model X.prog X.w) X.A X.xe none (EP X pins σ Q) (.ref s2.heap.objs.size) H3.objs.size) { s2 with heap := h₁, toks := s2.toks + ([] : List (Str × Value)).length } := by
    refine compLoop_go (fun n s' => ∃ i ys v0 H', Inv X' [] (v0 :: frees ix σ) H' s' ∧ tn i s'.heap ∧ (∀ b ∈ fp, H' b = none) ∧ W i n ys H') ?_ m0 ⟨0, [], none, _, I4, st4, fr4, w0⟩
    rintro n s3 ⟨i, ys, v0, H', I', st', fr', w'⟩
    obtain ⟨hp, stop | ⟨go, hz, N, hN, step⟩⟩ := turn i n ys H' w'
    · refine thn (T.done X' rfl rfl rfl hcalm i [] s3 _ H' (fun _ _ => False) I' (stat fr') st' stop.1) fun r s4 ⟨hr, I5⟩ => ?_
      subst hr
      exact fin I5 stop.2
    · refine thn (T.item X' rfl rfl rfl hcalm i [] s3 _ H' (fun _ _ => False) I' (stat fr') st' go) fun r s4 ⟨u, hr, h4⟩ => ?_
      subst hr
      refine thn h4 fun _ s5 ⟨y, H5, I5, r5, y5, st5, fr5⟩ => ?_
      have I5' := I5.pinned (stat fr5) (T.obj _ _ st5)
      have hloc : (compEnvC sc (closR X.env.cells sc.names []) H3.objs.size X.env).scope.names.lookup x = some .local := lookup_relabel_local hx
      refine thn (pg_name (X := X') (i := 0) (pos := px) hnd rfl (.inl hloc) (.inr hloc) _ s5 _ H5 y u (fun σ6 H6 => σ6 = some y :: frees ix σ ∧ te σ6 H6 fun y7 H7 => H7 s2.heap.objs.size = some (.lst ys) ∧ N (ys ++ [y7]) (upd H7 s2.heap.objs.size (.lst (ys ++ [y7]))))
        I5' r5 ⟨rfl, step y H5 y5⟩) fun _ s6 ⟨σ6, H6, I6, e6, q6⟩ => ?_
      subst e6
      refine thn (helt _ _ _ _ _ _ s6 _ H6 _ I6 q6) fun u7 s7 ⟨y7, H7, I7, r7, hp7, n7⟩ => ?_
      refine thn (mt_append (X := X') _ s7 _ H7 (.ref s2.heap.objs.size) [y7] (.ref s2.heap.objs.size) [u7] (fun _ H8 => H8 = upd H7 s2.heap.objs.size (.lst (ys ++ [y7]))) I7 rfl (.cons r7 .nil) ⟨_, ys, y7, rfl, rfl, hp7, hz, rfl⟩) fun _ s8 ⟨_, H8, I8, _, e8⟩ => ?_
      subst e8
      obtain ⟨m', hm', w7⟩ := hN _ _ n7
      refine ⟨m', hm', i + 1, ys ++ [y7], some y, _, I8.unpinned, T.keep _ _ _ st5 (fun b hb o e => (I8.pin (b, o) (List.mem_append_right _ (List.mem_append_right _ (mem_pinsAt hb e)))).1), fun b hb => ?_, w7⟩
      obtain ⟨o, e, d⟩ := T.obj _ _ st5 b hb
      exact (I8.pin (b, o) (List.mem_append_right _ (List.mem_append_right _ (mem_pinsAt hb e)))).2.1
  refine codeAny_compStart_list loop ?_
  exact T.self _ 0 _ _ _ st4 loop
end
section
variable {te : TE} {ρ : St} {H1 : Hp} {Q : VK} {p : Addr}
theorem comp_range {lo : Int} {n : Nat} (Pv : Nat → List V → Hp → Prop) (h0 : Pv 0 [] (upd H1 p (.lst []))) (hp : ∀ i ys H, i ≤ n → Pv i ys H → H p = some (.lst ys) ∧ ys.length < sizeLine)
    (hs : ∀ i ys H, i < n → Pv i ys H → te (some (.int (lo + (i : Nat))) :: ρ) H fun y H4 => H4 p = some (.lst ys) ∧ Pv (i + 1) (ys ++ [y]) (upd H4 p (.lst (ys ++ [y])))) (hd : ∀ ys H, Pv n ys H → Q (.ref p) H) :
    CompP (Itr lo n) te ρ p Q H1 := by
  refine ⟨fun i m ys H => m = n - i ∧ i ≤ n ∧ Pv i ys H, ⟨n, by simp, Nat.zero_le _, h0⟩, ?_⟩
  rintro i m ys H ⟨rfl, hi, q⟩
  obtain ⟨h1, h2⟩ := hp i ys H hi q
  refine ⟨h1, ?_⟩
  by_cases hlt : i < n
  · refine .inr ⟨hlt, h2, Pv (i + 1), fun zs H' q' => ⟨n - (i + 1), by omega, rfl, hlt, q'⟩, fun x H3 y => ?_⟩
    obtain ⟨e, y⟩ := y
    subst e y
    exact hs i ys _ hlt q
  · have e : i = n := by omega
    subst e
    exact .inl ⟨Nat.le_refl _, hd ys H q⟩
theorem same_of {H H' : Hp} {p : Addr} {o : HO} (h : H p = none) (e : upd H p o = H') : Same H H' := fun b u q => by rw [← e, upd_ne (ne_of_none q h)]; exact q
theorem at_of {H H' : Hp} {p : Addr} {o : HO} (e : upd H p o = H') : H' p = some o := by rw [← e]; exact upd_same
theorem snoc_all {Pv : Nat → V → Prop} {ys : List V} {y : V} (h : ∀ j z, ys[j]? = some z → Pv j z) (hy : Pv ys.length y) : ∀ j z, (ys ++ [y])[j]? = some z → Pv j z := fun j z e => by
  rcases Nat.lt_trichotomy j ys.length with c | c | c
  · rw [List.getElem?_append_left c] at e
    exact h j z e
  · subst c
    rw [List.getElem?_append_right (Nat.le_refl _), Nat.sub_self] at e
    cases e
    exact hy
  · rw [List.getElem?_eq_none (by rw [List.length_append]; show ys.length + 1 ≤ j; omega)] at e
    cases e
theorem grow {H1 H H4 : Hp} {ys : List V} {y : V} (hp : H1 p = none) (g : Same H1 H) (g4 : Same H H4) : Same H1 (upd H4 p (.lst (ys ++ [y]))) := fun b o eb => by
  rw [upd_ne (ne_of_none eb hp)]
  exact g4 _ _ (g _ _ eb)
end
end L2

set_option Elab.async false
set_option linter.all false
set_option maxRecDepth 100000
set_option maxHeartbeats 4000000
namespace Fc
open PySem PySem.Spec PyProof.Rows L2
/-- a def of the top that keeps a promise -/
def Has (P : Program) (w : World) (K : PySem.W.Frag) (mg : PySem.Str → Option Value) (base : Heap) (x : PySem.Str) (k : Nat) (ps : List PySem.Str) (sp : Sp) : Prop :=
  ∃ (f : Addr) (fd : FuncData), FnOk P w K mg base CX0 k f fd ps sp ∧ Binds K fd ps [] ∧ mg x = some (.ref f) ∧ PySem.W.keepIn K (.ref f) = true
def Df (K : PySem.W.Frag) (mg : PySem.Str → Option Value) (x : PySem.Str) (st : Stmt) (ps : List PySem.Str) : Prop := ∃ (f : Addr) (fd : FuncData), Fun K x x st f fd ∧ Binds K fd ps [] ∧ mg x = some (.ref f)
theorem Df.has {P : Program} {w : World} {K : PySem.W.Frag} {mg : PySem.Str → Option Value} {base : Heap} {x : PySem.Str} {st : Stmt} {k : Nat} {ps : List PySem.Str} {sp : Sp} (D : Df K mg x st ps)
    (h : ∀ f fd, Fun K x x st f fd → FnOk P w K mg base CX0 k f fd ps sp) : Has P w K mg base x k ps sp :=
  let ⟨f, fd, F, b, m⟩ := D
  ⟨f, fd, h f fd F, b, m, F.kp⟩
theorem pe_fn {X : Cx} {x : PySem.Str} {p pos : Pos} {e : Expr} {es : List Expr} {t : TA} {j k : Nat} {ps : List PySem.Str} {sp : Sp} (C : Has X.prog X.w X.K X.mg X.base x j ps sp) (hr : Room k X.A) (hg : Gl X x) (ha : PA X (e :: es) t) (hk : j ≤ k := by decide)
    (hdb : (x == ("__debug__" : PySem.Str)) = false := by decide) (he : starEach (e :: es) X.env = (false, eval e X.env) :: starEach es X.env := by rfl) (hpl : (backTo pos (starEach es X.env)).any (·.1) = false := by rfl) :
    PE X (.Call (.Name x p) (e :: es) [] pos) (tCall sp [] E0 t) := by
  obtain ⟨f, fd, F, b, m, kp⟩ := C
  exact pe_call (F.mono hk) hr hg m kp b .nil pass0 ha hdb he hpl
theorem iteN {c A B : Prop} [Decidable c] (hc : ¬ c) (h : B) : if decide c = true then A else B := by
  rw [decide_eq_false hc]
  exact iteF h
theorem iteY {c A B : Prop} [Decidable c] (hc : c) (h : A) : if decide c = true then A else B := by
  rw [decide_eq_true hc]
  exact iteT h
theorem iteD {c A B : Prop} [Decidable c] (h1 : c → A) (h2 : ¬ c → B) : if decide c = true then A else B := by
  by_cases h : c
  · exact iteY h (h1 h)
  · exact iteN h (h2 h)
theorem kit_same (K : PySem.W.Frag) (T : String) : PySem.W.kitOne K (.type T) (.type T) = some true := if_pos (by simp)
/-- a text's codes -/
def cs (f : PySem.Str) : List Nat := f.cps.toList
theorem cs_length (f : PySem.Str) : (cs f).length = f.length := by simp [cs, PySem.Str.length]
theorem code_l : PySem.Str.ofString "l" = ⟨#[108]⟩ := by decide +kernel
theorem code_r : PySem.Str.ofString "r" = ⟨#[114]⟩ := by decide +kernel
theorem code_0 : PySem.Str.ofString "" = ⟨#[]⟩ := by decide +kernel
theorem code_lr : cs (PySem.Str.ofString "lr") = [108, 114] := by decide +kernel
theorem count_both : ∀ {l : List Nat}, Lr l → l.count 108 + l.count 114 = l.length
  | [], _ => rfl
  | c :: l, h => by
    have ih := count_both (l := l) fun d hd => h d (List.mem_cons_of_mem _ hd)
    rcases h c List.mem_cons_self with rfl | rfl
    · rw [List.count_cons_self, List.count_cons_of_ne (by decide), List.length_cons]; omega
    · rw [List.count_cons_self, List.count_cons_of_ne (by decide), List.length_cons]; omega
theorem count_lr {y : PySem.Str} (h : Lr (cs y)) : Txt.count y (PySem.Str.ofString "l") + Txt.count y (PySem.Str.ofString "r") = (y.length : Int) := by
  rw [code_l, code_r]
  unfold Txt.count
  rw [count_one, count_one, ← cs_length]
  have := count_both h
  show ((List.count 108 (cs y) : Nat) : Int) + ((List.count 114 (cs y) : Nat) : Int) = _
  omega
theorem str_ext {a b : PySem.Str} (h : cs a = cs b) : a = b := ext_toList h
theorem cs_mk (l : List Nat) : cs ⟨l.toArray⟩ = l := by simp [cs]
theorem cs_app (a b : PySem.Str) : cs (a ++ b) = cs a ++ cs b := PySem.W.KT.app_list a b
theorem one_inj {c d : Nat} : ((⟨#[c]⟩ : PySem.Str) = ⟨#[d]⟩) ↔ c = d := by simp
theorem join_cons (x : PySem.Str) : ∀ r : List PySem.Str, cs (PySem.Str.join ⟨#[]⟩ (x :: r)) = cs x ++ cs (PySem.Str.join ⟨#[]⟩ r)
  | [] => by
    show cs x = cs x ++ []
    rw [List.append_nil]
  | y :: r => by
    show cs (x ++ ⟨#[]⟩ ++ PySem.Str.join ⟨#[]⟩ (y :: r)) = _
    rw [cs_app, cs_app]
    show cs x ++ [] ++ _ = _
    rw [List.append_nil]
theorem join_cs : ∀ l : List Nat, cs (PySem.Str.join ⟨#[]⟩ (l.map fun c => ⟨#[c]⟩)) = l
  | [] => rfl
  | c :: l => by
    rw [List.map_cons, join_cons, join_cs l]
    rfl
theorem join_one (l : List Nat) : Txt.join (PySem.Str.ofString "") (l.map fun c => ⟨#[c]⟩) = ⟨l.toArray⟩ := by
  refine str_ext ?_
  rw [code_0, cs_mk]
  show cs (Builtin.Str.glued ⟨#[]⟩ _) = l
  rw [StrLaws.glued_eq_join]
  exact join_cs l
theorem one_len (l : List Nat) : ((l.map fun c => (⟨#[c]⟩ : PySem.Str)).map (·.length)).sum + (l.map fun c => (⟨#[c]⟩ : PySem.Str)).length * (PySem.Str.ofString "").length = l.length := by
  rw [code_0]
  have e : (⟨#[]⟩ : PySem.Str).length = 0 := rfl
  rw [e, Nat.mul_zero, Nat.add_zero, List.map_map]
  induction l with
  | nil => rfl
  | cons c l ih =>
    rw [List.map_cons, List.sum_cons, ih, List.length_cons]
    show 1 + l.length = _
    omega
theorem small {n : Nat} (h : n ≤ 100000) : n ≤ sizeLine := by rw [sizeLine_eq]; omega
theorem smallT {n : Nat} (h : n ≤ 100000) : n < sizeLine := by rw [sizeLine_eq]; omega
theorem lr_at {r : Int} (h0 : 0 ≤ r) (h1 : r < 2) : ∃ c, atI (cs (PySem.Str.ofString "lr")) r = some c ∧ (c = 108 ∨ c = 114) := by
  rw [code_lr]
  rcases (show r = 0 ∨ r = 1 by omega) with rfl | rfl
  · exact ⟨108, rfl, .inl rfl⟩
  · exact ⟨114, rfl, .inr rfl⟩
theorem lr_snoc {f : PySem.Str} {c : Nat} (h : Lr (cs f)) (hc : c = 108 ∨ c = 114) : Lr (cs (f ++ ⟨#[c]⟩)) := by
  rw [cs_app]
  intro d hd
  rcases List.mem_append.mp hd with h1 | h1
  · exact h d h1
  · have e : d = c := by simpa [cs] using h1
    rw [e]; exact hc
theorem len_snoc (f : PySem.Str) (c : Nat) : (cs (f ++ ⟨#[c]⟩)).length = (cs f).length + 1 := by
  rw [cs_app, List.length_append]
  rfl
/-- the lowest bit of a count, by its own words -/
theorem part_of {n : Nat} (h0 : 0 < n) : ((Builtin.Int.intBits (Builtin.bitAnd (n : Int) (-(n : Int))) : Nat) : Int) - 1 = (val2 n : Int) := by
  obtain ⟨a, ha⟩ := val2_spec h0
  have e : (n : Int) = 2 ^ val2 n * (2 * (a : Int) + 1) := by
    conv => lhs; rw [ha]
    simp
  have p : Builtin.bitAnd (n : Int) (-(n : Int)) = 2 ^ val2 n := by
    rw [e]
    exact PySem.W.kbt_low _ _
  rw [p]
  have c : ((2 : Int) ^ val2 n) = ((2 ^ val2 n : Nat) : Int) := by simp
  have z : ((2 : Int) ^ val2 n) ≠ 0 := by
    rw [c]
    have := Nat.two_pow_pos (val2 n)
    omega
  unfold Builtin.Int.intBits
  rw [if_neg (by simpa using z), c, Int.natAbs_natCast, Nat.log2_two_pow]
  omega
theorem place_of {n : Nat} : Builtin.bitAnd ((n : Int) / 2 ^ ((val2 n : Int) + 1).toNat) 1 = (plc n % 2 : Nat) := by
  have e : ((val2 n : Int) + 1).toNat = val2 n + 1 := by omega
  rw [e, PyProof.Rows.bitAnd_m1]
  unfold plc
  rw [Nat.div_div_eq_div_mul, ← Nat.pow_succ]
  simp
end Fc

set_option Elab.async false
set_option linter.all false
set_option maxRecDepth 100000
set_option maxHeartbeats 4000000
namespace Fc
open PySem PySem.Spec PyProof.Rows L2
/-- the table of the other letters -/
def tabO : List (PySem.Str × PyData) := [("l", .str "r"), ("r", .str "l")]
/-- folds, not too long -/
structure Fo (y : PySem.Str) : Prop where
  lr : Lr (cs y)
  few : (cs y).length ≤ 1000
theorem Fo.len {y : PySem.Str} (h : Fo y) : y.length ≤ 1000 := by rw [← cs_length]; exact h.few
theorem Fo.fit {y : PySem.Str} (h : Fo y) : y.length ≤ sizeLine := small (by have := h.len; omega)
def sp_letters : Sp := fun vs H Q _ => ∃ y, vs = [.str y] ∧ Fo y ∧ Q (.bl true) H
def sp_need : Sp := fun vs H Q _ => ∃ y, vs = [.str y] ∧ Fo y ∧ Q .non H
def sp_whole : Sp := fun vs H Q _ => ∃ i, vs = [.int i] ∧ Q (.bl true) H
def sp_steps : Sp := fun vs H Q _ => ∃ y, vs = [.str y] ∧ Fo y ∧ Q (.int (2 ^ (cs y).length : Nat)) H
def sp_crease : Sp := fun vs H Q _ => ∃ (y : PySem.Str) (n : Nat), vs = [.str y, .int n] ∧ Fo y ∧ 0 < n ∧ n < 2 ^ (cs y).length ∧ Q (.str ⟨#[crs (cs y) n]⟩) H
def sp_part : Sp := fun vs H Q _ => ∃ n : Nat, vs = [.int n] ∧ 0 < n ∧ Q (.int (val2 n : Nat)) H
/-- a letter in its turn -/
def trnd (c n : Nat) : Nat := if plc n % 2 = 0 then c else oth c
def sp_turn : Sp := fun vs H Q _ => ∃ c n : Nat, vs = [.str ⟨#[c]⟩, .int n] ∧ (c = 108 ∨ c = 114) ∧ 0 < n ∧ Q (.str ⟨#[trnd c n]⟩) H
def sp_lefts : Sp := fun vs H Q _ => ∃ (y : PySem.Str) (n : Nat), vs = [.str y, .int n] ∧ Fo y ∧ n < 2 ^ (cs y).length ∧ Q (.int (lft (cs y) n : Nat)) H
def sp_creases : Sp := fun vs H Q _ => ∃ (y : PySem.Str) (a m : Nat), vs = [.str y, .int a, .int m] ∧ Fo y ∧ 0 < a ∧ a + m ≤ 2 ^ (cs y).length ∧ m ≤ 1000 ∧ ∀ H', Same H H' → Q (.str ⟨(row (cs y) a m).toArray⟩) H'
def sp_cell (K : PySem.W.Frag) : Sp := fun vs H Q _ => ∃ (a : Addr) (ns : List Int) (k : Int), vs = [.ref a, .int k] ∧ SqL K H a (ns.map V.int) ∧ 0 ≤ k ∧ ∀ v : Int, Q (.int v) H
def sp_draw : Sp := fun vs H Q _ => ∃ c k m : Int, vs = [.int c, .int k, .int m] ∧ 0 ≤ k ∧ 0 < m ∧ ∀ r : Int, 0 ≤ r → r < m → ∀ H', Same H H' → Q (.int r) H'
def sp_folds (K : PySem.W.Frag) : Sp := fun vs H Q _ => ∃ (a : Addr) (ns : List Int) (b : Int), vs = [.ref a, .int b] ∧ SqL K H a (ns.map V.int) ∧ ns.length ≤ 63 ∧ 0 ≤ b ∧ ∀ y : PySem.Str, Lr (cs y) → (cs y).length = ns.length → ∀ H', Same H H' → Q (.str y) H'
def sp_law (K : PySem.W.Frag) : Sp := fun vs H Q _ => ∃ (a : Addr) (ns : List Int), vs = [.ref a] ∧ SqL K H a (ns.map V.int) ∧ ns.length ≤ 63 ∧ ∀ H', Q (.bl true) H'
theorem crs_trnd (f : List Nat) (n : Nat) : crs f n = trnd (f.getD (val2 n) 0) n := rfl
theorem row_lt {y : PySem.Str} {a m i : Nat} (h : a + m ≤ 2 ^ (cs y).length) (hi : i < m) : a + i < 2 ^ (cs y).length := by omega
/-- a row of signs as values -/
def signs (l : List Nat) : List V := (l.map fun c => (⟨#[c]⟩ : PySem.Str)).map V.str
theorem signs_snoc (l : List Nat) (c : Nat) : signs (l ++ [c]) = signs l ++ [.str ⟨#[c]⟩] := by simp [signs]
theorem signs_length (l : List Nat) : (signs l).length = l.length := by simp [signs]
def primes : List Int := [1000003, 1000033, 1000037, 1000039, 1000081, 1000099, 1000117, 1000121, 1000133, 1000151, 1000159, 1000171, 1000183, 1000187, 1000193, 1000199]
theorem prime_at {k : Int} (h : 0 ≤ k) : ∃ p : Int, atI (primes.map V.int) (k % 16) = some (.int p) ∧ 0 < p := by
  have e : k % 16 = (((k % 16).toNat : Nat) : Int) := by omega
  have hlt : (k % 16).toNat < primes.length := by show _ < 16; omega
  have hp : ∀ x ∈ primes, 0 < x := by decide
  have g : atI (primes.map V.int) (((k % 16).toNat : Nat) : Int) = some (.int primes[(k % 16).toNat]) := atI_nat (by rw [List.getElem?_map, List.getElem?_eq_getElem hlt]; rfl)
  rw [← e] at g
  exact ⟨_, g, hp _ (List.getElem_mem hlt)⟩
theorem same_new {H : Hp} {p : Addr} (h : H p = none) (o : HO) : Same H (upd H p o) := fun b u q => by rw [upd_ne (ne_of_none q h)]; exact q
theorem int_at {ns : List Int} {i : Nat} (h : i < ns.length) : ∃ z : Int, atI (ns.map V.int) (0 + (i : Int)) = some (.int z) := by
  refine ⟨ns[i], ?_⟩
  rw [Int.zero_add]
  exact atI_nat (by rw [List.getElem?_map, List.getElem?_eq_getElem h]; rfl)
theorem int_at0 {ns : List Int} (h : 0 < ns.length) : ∃ z : Int, atI (ns.map V.int) 0 = some (.int z) := by
  have := int_at h
  simpa using this
theorem at_code {l : List Nat} {i : Nat} (h : i < l.length) : atI l (i : Int) = some (l.getD i 0) := atI_nat (by rw [List.getD_eq_getElem?_getD, List.getElem?_eq_getElem h]; rfl)
theorem two_pow_cast (n : Nat) : (1 : Int) * 2 ^ ((n : Int)).toNat = ((2 ^ n : Nat) : Int) := by rw [Int.toNat_natCast, Int.one_mul]; simp
end Fc

set_option Elab.async false
set_option linter.all false
set_option maxRecDepth 100000
namespace L2
open PySem PySem.Spec PyProof.Rows
def Itd (hi : Int) (n : Nat) : It := ⟨fun i _ => i < n, fun i H x H' => H' = H ∧ x = .int (hi - i), fun i _ => n ≤ i⟩
theorem turn_down {P : Program} {w : World} {K : PySem.W.Frag} {tg : Expr} (it : Addr) (hi : Int) (n : Nat) : Turn P w K tg (Itd hi n) [it] it (fun i h => IsRangeIter h it (hi + (i : Nat) * (-1)) ((n : Int) - (i : Nat)) (-1)) where
  mem := by simp
  obj := fun i h st b hb => by
    have e : b = it := by simpa using hb
    subst e
    exact ⟨_, st, fun v z => by
      have z' : Data.fields _ = Data.cell v := z
      cases z'⟩
  keep := fun i h h' st k => k it (by simp) _ st
  item := by
    intro X hP hw hK hc i pins s σ H E I hf st hg
    subst hP hw hK
    obtain ⟨f0, f1, f2, f3, f4, f5⟩ := hf it (by simp)
    have W := Walks.range (prog := X.prog) (w := X.w) (I.ok.hd hc) it hi (-1) n
    refine W.item i s _ _ hg st fun v h' tk hv st' kk => ?_
    obtain ⟨t, rfl⟩ := hv
    have I1 : Inv X pins σ H { s with heap := h', toks := tk } := I.turned (fun b o hb e => kk b o (by simpa using hb) e) f0 f1 f3 f4 f5
    refine ⟨_, rfl, go_of (s := { s with heap := h', toks := tk }) (n := "range_iterator") st' rfl rfl (by decide) ⟨.int (hi - i), H, I1, ⟨t, ?_⟩, ⟨rfl, rfl⟩, st', fun b hb => (hf b hb).1⟩⟩
    rw [show hi + (i : Int) * (-1) = hi - (i : Int) by omega]
  done := by
    intro X hP hw hK hc i pins s σ H E I hf st hg
    subst hP hw hK
    obtain ⟨f0, f1, f2, f3, f4, f5⟩ := hf it (by simp)
    exact wpAny_pyNext_range_end (I.ok.hd hc) st (by have : n ≤ i := hg; omega) fun h' eb => ⟨rfl, I.turned (t' := s.toks) (fun b o hb e => eb b o hb e) f0 f1 f3 f4 f5⟩
  self := fun _ _ _ _ _ st h => wpAny_pyIter_rangeiter st h
section
variable {X : Cx}
def iRngD (ta : TA) : TI := fun σ H R => ta σ H fun vs H1 => ∃ i j : Int, vs = [.int i, .int j, .int (-1)] ∧ (-(2 ^ 62) ≤ i ∧ i < 2 ^ 62 ∧ -(2 ^ 62) ≤ j ∧ j < 2 ^ 62) ∧ R (Itd i (i - j).toNat) H1
theorem pi_rngD {tg a b c : Expr} {ta : TA} {p pos : Pos} (hg : Gl X "range") (hm : X.mg "range" = none) (ha : PA X [a, b, c] ta) (hs : starEach [a, b, c] X.env = [(false, eval a X.env), (false, eval b X.env), (false, eval c X.env)] := by rfl) (hs2 : starEach [b, c] X.env = [(false, eval b X.env), (false, eval c X.env)] := by rfl) :
    PI X tg (.Call (.Name "range" p) [a, b, c] [] pos) (iRngD ta) := by
  intro pins s σ H R I h
  refine Call_ (ld_blt I hg hm boot_range (PyProof.Rows.callWith_type1 (thn (ha pos pins s σ H _ I h) fun us s1 ⟨vs, H1, I1, r1, q1⟩ => ?_) (by rw [hs, hs2]) (by rw [hs2]; rfl)))
  obtain ⟨i, j, e, ⟨b1, b2, b3, b4⟩, q⟩ := q1
  subst e
  cases r1 with
  | cons r rr =>
    cases rr with
    | cons r' rr =>
      cases rr with
      | cons r'' rr =>
        cases rr
        obtain ⟨t, rfl⟩ := r
        obtain ⟨t', rfl⟩ := r'
        obtain ⟨t'', rfl⟩ := r''
        refine call_range_3 (by decide) ?_ (Or.inl (PyProof.noPylong_of_log2 (by decide +kernel)))
        have I2 : Inv X pins σ H1 { s1 with heap := s1.heap.push { cls := .type "range", data := .fields #[.int i t, .int j t', .int (-1) t''] }, toks := s1.toks } := I1.kept fun b o e => Heap.get?_push_of_some _ e
        refine wpAny_pyIter_range (IsRange.new ..) (PySem.W.small_down b1 b2 b3 b4) ?_
        refine ⟨_, _, _, _, H1, rfl, I2.kept (t' := s1.toks) fun b o e => Heap.get?_push_of_some _ e, turn_down _ i (i - j).toNat, ?_, ?_, q⟩
        · have e1 : i + ((0 : Nat) : Int) * (-1) = i := by simp
          have e2 : (((i - j).toNat : Nat) : Int) - ((0 : Nat) : Int) = Builtin.Range.rangeSize i j (-1) := by rw [PySem.W.rangeSize_downNat]; simp
          show IsRangeIter _ _ (i + ((0 : Nat) : Int) * (-1)) ((((i - j).toNat : Nat) : Int) - ((0 : Nat) : Int)) (-1)
          rw [e1, e2]
          exact Heap.get?_push_size _ rfl
        · intro b hb
          have e : b = (s1.heap.push { cls := .type "range", data := .fields #[.int i t, .int j t', .int (-1) t''] }).objs.size := by simpa using hb
          subst e
          exact I2.fpOk (Nat.le_refl _) (I2.hok.fresh (Nat.le_refl _))
theorem for_down {hi : Int} {n : Nat} {g : TG} {tb : TS} {D : Ends} {σ : St} {H : Hp} (Pv : Nat → St → Hp → Prop) (h0 : Pv 0 σ H)
    (hs : ∀ i σ H, i < n → Pv i σ H → g (.int (hi - i)) σ H fun σ2 H2 => tb { D with nx := Pv (i + 1), ct := Pv (i + 1), bk := D.nx } σ2 H2) (hd : ∀ σ H, Pv n σ H → D.nx σ H) :
    ∃ W : Nat → Nat → St → Hp → Prop, (∃ m, W 0 m σ H) ∧ ∀ i m σ H, W i m σ H →
      ((Itd hi n).stop i H ∧ D.nx σ H) ∨ ((Itd hi n).go i H ∧ ∃ N : St → Hp → Prop, (∀ σ' H', N σ' H' → ∃ m', m' < m ∧ W (i + 1) m' σ' H') ∧ ∀ x H', (Itd hi n).yld i H x H' → g x σ H' fun σ2 H2 => tb { D with nx := N, ct := N, bk := D.nx } σ2 H2) := by
  refine ⟨fun i m σ H => m = n - i ∧ i ≤ n ∧ Pv i σ H, ⟨n, by simp, Nat.zero_le _, h0⟩, ?_⟩
  rintro i m σ H ⟨rfl, hi, p⟩
  by_cases hlt : i < n
  · refine .inr ⟨hlt, Pv (i + 1), fun σ' H' p' => ⟨n - (i + 1), by omega, rfl, hlt, p'⟩, fun x H' y => ?_⟩
    obtain ⟨e, y⟩ := y
    subst e y
    exact hs i σ _ hlt p
  · have e : i = n := by omega
    subst e
    exact .inl ⟨Nat.le_refl _, hd σ H p⟩

theorem pe_tabI {d : Addr} {D : List (PyData × PyData)} {x : Str} {p pos : Pos} {b : Expr} {tb : TE} (hg : Gl X x) (hm : X.mg x = some (.ref d)) (hT : ∀ h : Heap, X.K.In h → StrTab X.prog X.w h d D) (hb : PE X b tb) (hs : PlainIx b)
    (hd : (x == ("__debug__" : Str)) = false := by decide) :
    PE X (.Subscript (.Name x p) b pos) (fun σ H Q => tb σ H fun y H1 => ∃ z r, y = .str z ∧ lookup (.str z) D = some (.int r) ∧ Q (.int r) H1) := by
  intro pins s σ H Q I h
  refine Subscript_ (thn (pe_glob (v := .ref d) hg hm rfl hd pins s σ H (fun v H1 => v = .ref d ∧ H1 = H) I ⟨rfl, rfl⟩) fun v s1 ⟨x1, H1, I1, r1, e1, e2⟩ => ?_)
  subst e1 e2
  obtain rfl : v = Value.ref d := r1
  refine thn (hb pins s1 σ _ _ I1 h) fun u s2 ⟨y, H2, I2, r2, z, r, e, hl, q⟩ => ?_
  subst e
  obtain ⟨t, rfl⟩ := r2
  refine item_strTab (hT _ I2.kIn) hl (fun v hv => ?_) (hs _ _) (fun _ => rfl)
  obtain ⟨t', rfl⟩ := hv.int_inv
  exact ⟨.int r, H2, I2.tok _, ⟨_, rfl⟩, q⟩

theorem bools_of : ∀ {bs : List Bool} {us : List Value}, Vals (bs.map V.bl) us → LSm.BoolsAre us bs
  | [], _, r => by cases r; exact .nil
  | b :: bs, _, r => by
    cases r with
    | cons r1 r2 =>
      cases r1
      exact .cons b (bools_of r2)
theorem call_all (hc : X.calm = true) : CallR X (.builtin "all") (fun xs H Q => ∃ (p : Addr) (bs : List Bool), xs = [.ref p] ∧ SqL X.K H p (bs.map V.bl) ∧ Q (.bl (bs.all id)) H) := by
  intro pins s σ H xs us Q I r h
  obtain ⟨p, bs, rfl, hq, q⟩ := h
  obtain ⟨u, rfl, rx⟩ := vals1 r
  cases rx
  obtain ⟨its, rv, pl, _⟩ := I.list hq
  have hl : s.heap.IsList p its.toArray := pl.isList
  have hb := bools_of rv
  have hlt : p < s.heap.objs.size := by obtain ⟨_, e, _⟩ := hl; exact Heap.lt_size e
  refine call_all_walk (wpAny_pyIter_list hl ?_)
  refine ⟨s.heap.objs.size, [s.heap.objs.size, p], [s.heap.objs.size], its.toArray.size, _, _, fun i => (bs[i]?).getD true, rfl, Walks.list (A := X.A.in1) (I.ok.hd hc) _ p (Nat.ne_of_lt hlt) its.toArray,
    ⟨⟨_, Heap.get?_push_size _ rfl, rfl, rfl⟩, hl.push _⟩, fun i v s' Q' E' hP hQ => ?_, fun h' tk hk => ?_⟩
  · obtain ⟨b, e, rfl⟩ := hb.get i v (by simpa using hP)
    simp only [e, Option.getD_some] at hQ
    exact wpAny_truthy_bool hQ
  · have e : ((List.range its.toArray.size).all fun i => (bs[i]?).getD true) = bs.all id := by
      rw [List.size_toArray, hb.length]; exact LSm.range_all bs
    rw [e]
    exact ⟨.bl _, H, I.kept (LSm.kept_iter hk), rfl, q⟩

def sameV (xs ys : List V) : Bool := (List.range (min xs.length ys.length)).all (fun j => eqV (xs.getD j .non) (ys.getD j .non)) && xs.length == ys.length
theorem flat_at {xs : List V} (h : xs.all flatV = true) {j : Nat} (hj : j < xs.length) : flatV (xs.getD j .non) = true := by
  rw [List.getD_eq_getElem?_getD, List.getElem?_eq_getElem hj]
  exact List.all_eq_true.mp h _ (List.getElem_mem hj)
theorem items_eqAt {A : Around} {s : Shared} {xs ys : List V} {us vs : List Value} (rx : Vals xs us) (ry : Vals ys vs) (fx : xs.all flatV = true) (fy : ys.all flatV = true) :
    ∀ j (h1 : j < us.toArray.size) (h2 : j < vs.toArray.size), SeqAt.EqAt A.in1 s us.toArray[j] vs.toArray[j] (eqV (xs.getD j .non) (ys.getD j .non)) := by
  intro j h1 h2
  have l1 := rx.length
  have l2 := ry.length
  have h1' : j < xs.length := by simpa [l1] using h1
  have h2' : j < ys.length := by simpa [l2] using h2
  obtain ⟨u, e1, r1⟩ := rx.get (i := j) (x := xs.getD j .non) (by rw [List.getD_eq_getElem?_getD, List.getElem?_eq_getElem h1']; rfl)
  obtain ⟨v, e2, r2⟩ := ry.get (i := j) (x := ys.getD j .non) (by rw [List.getD_eq_getElem?_getD, List.getElem?_eq_getElem h2']; rfl)
  have f1 : us.toArray[j] = u := by
    have := List.getElem?_eq_some_iff.mp e1
    obtain ⟨_, z⟩ := this
    simpa using z
  have f2 : vs.toArray[j] = v := by
    have := List.getElem?_eq_some_iff.mp e2
    obtain ⟨_, z⟩ := this
    simpa using z
  rw [f1, f2]
  exact eqAt_V r1 r2 (flat_at fx h1') (flat_at fy h2')
def rEqT (K : PySem.W.Frag) (neg : Bool) : R2 := fun x y H Q => ∃ a b xs ys, x = .ref a ∧ y = .ref b ∧ SqT K H a xs ∧ SqT K H b ys ∧ xs.all flatV = true ∧ ys.all flatV = true ∧ Q (.bl (if neg then !sameV xs ys else sameV xs ys)) H
theorem op_eqT (hu : X.A.units < cLine) : OpR X (compareOp .Eq) (rEqT X.K false) := by
  intro pins s σ H x y v u Q I rx ry h
  obtain ⟨a, b, xs, ys, rfl, rfl, ha, hb, fx, fy, q⟩ := h
  cases rx
  cases ry
  obtain ⟨its, r1, p1, _⟩ := I.tuple ha
  obtain ⟨jts, r2, p2, _⟩ := I.tuple hb
  refine SeqAt.eq_tupleAt (e := fun j => eqV (xs.getD j .non) (ys.getD j .non)) p1 p2 hu (items_eqAt r1 r2 fx fy) ?_
  refine ⟨.bl (sameV xs ys), H, I, ?_, q⟩
  show Value.bool _ = Value.bool _
  unfold sameV
  rw [r1.length, r2.length]
  simp
end
end L2

namespace Fc
/-- one step by a heading -/
def dir (h : Nat) : Int × Int := if h % 4 = 0 then (1, 0) else if h % 4 = 1 then (0, 1) else if h % 4 = 2 then (-1, 0) else (0, -1)
/-- a quarter to the left (1) or to the right (3) -/
def trn (c : Nat) : Nat := if c = 108 then 1 else 3
/-- the heading of the step k, counted from 0 -/
def hdg (f : List Nat) : Nat → Nat
  | 0 => 0
  | k + 1 => (hdg f k + trn (crs f (k + 1))) % 4
/-- where the way is behind k steps -/
def pos (f : List Nat) : Nat → Int × Int
  | 0 => (0, 0)
  | k + 1 => ((pos f k).1 + (dir (hdg f k)).1, (pos f k).2 + (dir (hdg f k)).2)
theorem hdg_lt (f : List Nat) (k : Nat) : hdg f k < 4 := by
  cases k with
  | zero => exact (by decide : 0 < 4)
  | succ k => exact Nat.mod_lt _ (by decide)
theorem dir_mod (h : Nat) : dir (h % 4) = dir h := by unfold dir; rw [Nat.mod_mod]
theorem trn_oth {c : Nat} (h : c = 108 ∨ c = 114) : trn c + trn (oth c) = 4 := by rcases h with rfl | rfl <;> rfl
/-- the headings of two steps for each step of the coarser way -/
theorem hdg_two {c : Nat} {f : List Nat} (hc : c = 108 ∨ c = 114) : ∀ k : Nat, hdg (c :: f) (2 * k) = (hdg f k + (if k % 2 = 0 then 0 else trn c)) % 4
  | 0 => rfl
  | k + 1 => by
    have ih := hdg_two (f := f) hc k
    have e : 2 * (k + 1) = 2 * k + 1 + 1 := by omega
    have o : crs (c :: f) (2 * k + 1) = if k % 2 = 0 then c else oth c := by
      rw [crs_odd (by omega)]
      rw [show (2 * k + 1) / 2 = k by omega]
    have v : crs (c :: f) (2 * k + 1 + 1) = crs f (k + 1) := by
      rw [← e]
      exact crs_two (by omega)
    have t4 := trn_oth hc
    rw [e]
    show ((hdg (c :: f) (2 * k) + trn (crs (c :: f) (2 * k + 1))) % 4 + trn (crs (c :: f) (2 * k + 1 + 1))) % 4 = ((hdg f k + trn (crs f (k + 1))) % 4 + _) % 4
    rw [ih, o, v]
    by_cases p : k % 2 = 0
    · rw [if_pos p, if_pos p, if_neg (by omega)]; omega
    · rw [if_neg p, if_neg p, if_pos (by omega)]; omega
theorem hdg_two1 {c : Nat} {f : List Nat} (hc : c = 108 ∨ c = 114) (k : Nat) : hdg (c :: f) (2 * k + 1) = (hdg f k + (if k % 2 = 0 then trn c else 0)) % 4 := by
  have o : crs (c :: f) (2 * k + 1) = if k % 2 = 0 then c else oth c := by
    rw [crs_odd (by omega)]
    rw [show (2 * k + 1) / 2 = k by omega]
  have t4 := trn_oth hc
  show (hdg (c :: f) (2 * k) + trn (crs (c :: f) (2 * k + 1))) % 4 = _
  rw [hdg_two hc, o]
  by_cases p : k % 2 = 0
  · rw [if_pos p, if_pos p, if_pos p]; omega
  · rw [if_neg p, if_neg p, if_neg p]; omega
theorem dir_cases (h : Nat) : (h % 4 = 0 ∧ dir h = (1, 0)) ∨ (h % 4 = 1 ∧ dir h = (0, 1)) ∨ (h % 4 = 2 ∧ dir h = (-1, 0)) ∨ (h % 4 = 3 ∧ dir h = (0, -1)) := by
  unfold dir
  rcases (show h % 4 = 0 ∨ h % 4 = 1 ∨ h % 4 = 2 ∨ h % 4 = 3 by omega) with e | e | e | e
  · exact .inl ⟨e, by rw [if_pos e]⟩
  · exact .inr (.inl ⟨e, by rw [if_neg (by omega), if_pos e]⟩)
  · exact .inr (.inr (.inl ⟨e, by rw [if_neg (by omega), if_neg (by omega), if_pos e]⟩))
  · exact .inr (.inr (.inr ⟨e, by rw [if_neg (by omega), if_neg (by omega), if_neg (by omega)]⟩))
theorem pos_par (f : List Nat) : ∀ k : Nat, ((pos f k).1 + (pos f k).2) % 2 = (k : Int) % 2
  | 0 => rfl
  | k + 1 => by
    have ih := pos_par f k
    show ((pos f k).1 + (dir (hdg f k)).1 + ((pos f k).2 + (dir (hdg f k)).2)) % 2 = _
    rcases dir_cases (hdg f k) with ⟨_, e⟩ | ⟨_, e⟩ | ⟨_, e⟩ | ⟨_, e⟩ <;> rw [e] <;> simp only [] <;> omega
/-- two steps of the finer way are one of the coarser, turned by an eighth and stretched -/
def fine (t : Nat) (p : Int × Int) : Int × Int := if t = 1 then (p.1 - p.2, p.1 + p.2) else (p.1 + p.2, p.2 - p.1)
theorem pos_two {c : Nat} {f : List Nat} (hc : c = 108 ∨ c = 114) : ∀ k : Nat, pos (c :: f) (2 * k) = fine (trn c) (pos f k)
  | 0 => by rcases hc with rfl | rfl <;> rfl
  | k + 1 => by
    have ih := pos_two (f := f) hc k
    have h0 := hdg_two (f := f) hc k
    have h1 := hdg_two1 (f := f) hc k
    have e : 2 * (k + 1) = 2 * k + 1 + 1 := by omega
    rw [e]
    show ((pos (c :: f) (2 * k)).1 + (dir (hdg (c :: f) (2 * k))).1 + (dir (hdg (c :: f) (2 * k + 1))).1, (pos (c :: f) (2 * k)).2 + (dir (hdg (c :: f) (2 * k))).2 + (dir (hdg (c :: f) (2 * k + 1))).2) =
      fine (trn c) ((pos f k).1 + (dir (hdg f k)).1, (pos f k).2 + (dir (hdg f k)).2)
    rw [ih, h0, h1]
    generalize hdg f k = h
    generalize pos f k = p
    have key : ∀ t, (t = 1 ∨ t = 3) → (dir ((h + 0) % 4)).1 + (dir ((h + t) % 4)).1 = (fine t (dir h)).1 ∧ (dir ((h + 0) % 4)).2 + (dir ((h + t) % 4)).2 = (fine t (dir h)).2 := by
      intro t ht
      rw [dir_mod, dir_mod, Nat.add_zero]
      rcases dir_cases h with ⟨a, e⟩ | ⟨a, e⟩ | ⟨a, e⟩ | ⟨a, e⟩ <;> rcases ht with rfl | rfl <;> rw [e] <;> unfold dir fine <;> simp [show (h + 1) % 4 = (h % 4 + 1) % 4 by omega, show (h + 3) % 4 = (h % 4 + 3) % 4 by omega, a]
    have ht : trn c = 1 ∨ trn c = 3 := by rcases hc with rfl | rfl <;> simp [trn]
    obtain ⟨k1, k2⟩ := key (trn c) ht
    have lin : ∀ q : Int × Int, fine (trn c) (p.1 + q.1, p.2 + q.2) = ((fine (trn c) p).1 + (fine (trn c) q).1, (fine (trn c) p).2 + (fine (trn c) q).2) := by
      intro q
      rcases ht with e | e <;> rw [e] <;> unfold fine <;> simp <;> omega
    rw [lin (dir h), ← k1, ← k2]
    by_cases pa : k % 2 = 0
    · rw [if_pos pa, if_pos pa]
      refine Prod.ext ?_ ?_ <;> simp only [] <;> omega
    · rw [if_neg pa, if_neg pa]
      refine Prod.ext ?_ ?_ <;> simp only [] <;> omega
theorem fine_inj {t : Nat} {p q : Int × Int} (h : fine t p = fine t q) : p = q := by
  unfold fine at h
  split at h
  · have h1 := congrArg Prod.fst h
    have h2 := congrArg Prod.snd h
    simp only [] at h1 h2
    exact Prod.ext (by omega) (by omega)
  · have h1 := congrArg Prod.fst h
    have h2 := congrArg Prod.snd h
    simp only [] at h1 h2
    exact Prod.ext (by omega) (by omega)
theorem pos_next {f : List Nat} {i j : Nat} (h : pos f i = pos f j) (g : hdg f i = hdg f j) : pos f (i + 1) = pos f (j + 1) := by
  show ((pos f i).1 + _, _) = ((pos f j).1 + _, _)
  rw [h, g]
theorem pos_prev {f : List Nat} {i j : Nat} (h : pos f (i + 1) = pos f (j + 1)) (g : hdg f i = hdg f j) : pos f i = pos f j := by
  have h1 := congrArg Prod.fst h
  have h2 := congrArg Prod.snd h
  have e1 : (pos f i).1 + (dir (hdg f i)).1 = (pos f j).1 + (dir (hdg f j)).1 := h1
  have e2 : (pos f i).2 + (dir (hdg f i)).2 = (pos f j).2 + (dir (hdg f j)).2 := h2
  rw [g] at e1 e2
  exact Prod.ext (by omega) (by omega)
theorem par_of {f : List Nat} {i j : Nat} (h : pos f i = pos f j) : i % 2 = j % 2 := by
  have a := pos_par f i
  have b := pos_par f j
  rw [h] at a
  omega
/-- no step is gone twice the same way -/
theorem once : ∀ (f : List Nat), Lr f → ∀ i j : Nat, i < 2 ^ f.length → j < 2 ^ f.length → pos f i = pos f j → hdg f i = hdg f j → i = j
  | [], _, i, j, hi, hj, _, _ => by simp at hi hj; omega
  | c :: f, hf, i, j, hi, hj, hp, hh => by
    have hc := hf c List.mem_cons_self
    have hr : Lr f := fun d hd => hf d (List.mem_cons_of_mem _ hd)
    have ih := once f hr
    rw [List.length_cons, Nat.pow_succ] at hi hj
    have par := par_of hp
    by_cases e : i % 2 = 0
    · obtain ⟨k, rfl⟩ : ∃ k, i = 2 * k := ⟨i / 2, by omega⟩
      obtain ⟨m, rfl⟩ : ∃ m, j = 2 * m := ⟨j / 2, by omega⟩
      rw [pos_two hc, pos_two hc] at hp
      have pk := fine_inj hp
      have kp := par_of pk
      rw [hdg_two hc, hdg_two hc, kp] at hh
      have a := hdg_lt f k
      have b := hdg_lt f m
      have := ih k m (by omega) (by omega) pk (by omega)
      omega
    · obtain ⟨k, rfl⟩ : ∃ k, i = 2 * k + 1 := ⟨i / 2, by omega⟩
      obtain ⟨m, rfl⟩ : ∃ m, j = 2 * m + 1 := ⟨j / 2, by omega⟩
      have hn := pos_next hp hh
      rw [show 2 * k + 1 + 1 = 2 * (k + 1) by omega, show 2 * m + 1 + 1 = 2 * (m + 1) by omega, pos_two hc, pos_two hc] at hn
      have pk := fine_inj hn
      have kp : k % 2 = m % 2 := by have := par_of pk; omega
      rw [hdg_two1 hc, hdg_two1 hc, kp] at hh
      have a := hdg_lt f k
      have b := hdg_lt f m
      have hk : hdg f k = hdg f m := by omega
      have := ih k m (by omega) (by omega) (pos_prev pk hk) hk
      omega
end Fc

namespace Fc
/-- a quarter's sign -/
def qt (c : Nat) : Int := if c = 108 then 1 else -1
theorem qt_or (c : Nat) : qt c = 1 ∨ qt c = -1 := by unfold qt; split <;> simp
theorem fine_qt {c : Nat} (hc : c = 108 ∨ c = 114) (x y : Int) : fine (trn c) (x, y) = (x - qt c * y, y + qt c * x) := by
  rcases hc with rfl | rfl
  · show (x - y, x + y) = (x - 1 * y, y + 1 * x)
    rw [Int.one_mul, Int.one_mul, Int.add_comm]
  · show (x + y, y - x) = (x - -1 * y, y + -1 * x)
    refine Prod.ext ?_ ?_ <;> simp only [] <;> omega
theorem pos_bit0 {c : Nat} {g : List Nat} {k : Nat} (hc : c = 108 ∨ c = 114) : pos (c :: g) (2 * k) = ((pos g k).1 - qt c * (pos g k).2, (pos g k).2 + qt c * (pos g k).1) := by
  rw [pos_two hc]
  exact fine_qt hc _ _
theorem hdg_mid {c : Nat} {g : List Nat} {k : Nat} {t : Int} (hc : c = 108 ∨ c = 114) (ht : t % 4 = hdg g k) : (t + qt c * ((k % 2 : Nat) : Int)) % 4 = hdg (c :: g) (2 * k) := by
  rw [hdg_two hc]
  rcases (show k % 2 = 0 ∨ k % 2 = 1 by omega) with e | e
  · rw [e, if_pos rfl]
    have := hdg_lt g k
    omega
  · rw [e, if_neg (by decide)]
    rcases hc with rfl | rfl
    · show (t + 1 * ((1 : Nat) : Int)) % 4 = (((hdg g k + 1) % 4 : Nat) : Int)
      omega
    · show (t + -1 * ((1 : Nat) : Int)) % 4 = (((hdg g k + 3) % 4 : Nat) : Int)
      omega
/-- one where two bits are not the same -/
def xr (a b : Nat) : Nat := if a = b then 0 else 1
theorem hdg_bit {c : Nat} {g : List Nat} {k o : Nat} {t : Int} (hc : c = 108 ∨ c = 114) (ho : o < 2) (ht : t % 4 = hdg g k) : (t + qt c * ((xr (k % 2) o : Nat) : Int)) % 4 = hdg (c :: g) (2 * k + o) := by
  rcases (show o = 0 ∨ o = 1 by omega) with rfl | rfl
  · have h := hdg_mid (g := g) hc ht
    rw [Nat.add_zero, ← h]
    rcases (show k % 2 = 0 ∨ k % 2 = 1 by omega) with e | e <;> rw [e] <;> rfl
  · rw [hdg_two1 hc]
    rcases (show k % 2 = 0 ∨ k % 2 = 1 by omega) with e | e
    · rw [e, if_pos rfl]
      rcases hc with rfl | rfl
      · show (t + 1 * ((1 : Nat) : Int)) % 4 = (((hdg g k + 1) % 4 : Nat) : Int)
        omega
      · show (t + -1 * ((1 : Nat) : Int)) % 4 = (((hdg g k + 3) % 4 : Nat) : Int)
        omega
    · rw [e, if_neg (by decide)]
      have := hdg_lt g k
      rcases hc with rfl | rfl
      · show (t + 1 * ((0 : Nat) : Int)) % 4 = (((hdg g k + 0) % 4 : Nat) : Int)
        omega
      · show (t + -1 * ((0 : Nat) : Int)) % 4 = (((hdg g k + 0) % 4 : Nat) : Int)
        omega
theorem bit_split (n j : Nat) : n / 2 ^ j = 2 * (n / 2 ^ (j + 1)) + n / 2 ^ j % 2 := by
  rw [Nat.pow_succ, ← Nat.div_div_eq_div_mul]
  omega
theorem bit_below {n L j : Nat} (h : n ≤ 2 ^ L) (hj : j < L) (ho : n / 2 ^ j % 2 = 1) : n < 2 ^ L := by
  rcases Nat.lt_or_ge n (2 ^ L) with c | c
  · exact c
  · have e : n = 2 ^ L := by omega
    rw [e, Nat.pow_div (by omega) (by decide)] at ho
    obtain ⟨m, hm⟩ : ∃ m, L - j = m + 1 := ⟨L - j - 1, by omega⟩
    rw [hm, Nat.pow_succ] at ho
    omega
theorem drop_at {f : List Nat} {j : Nat} (h : j < f.length) : f.drop j = f.getD j 0 :: f.drop (j + 1) := by
  rw [List.drop_eq_getElem_cons h]
  congr 1
  rw [List.getD_eq_getElem?_getD, List.getElem?_eq_getElem h]
  rfl
end Fc

namespace Fc
end Fc

set_option Elab.async false
set_option linter.all false
set_option maxRecDepth 100000
set_option maxHeartbeats 4000000
namespace Fc
open PySem PySem.Spec PyProof.Rows L2
def tabQ : List (PySem.Str × PyData) := [("l", .int 1), ("r", .int (-1))]
/-- a tuple of the top -/
def TupK (K : PySem.W.Frag) (a : Addr) (xs : List V) : Prop := ∃ (o : Obj) (its : Array Value) (n : Nat), K.lookup a = some o ∧ o.cls = .type "tuple" ∧ o.data = .seq its n ∧ its.size ≤ sizeLine ∧ Vals xs its.toList
theorem TupK.sq {K : PySem.W.Frag} {a : Addr} {xs : List V} (h : TupK K a xs) (H : Hp) : SqT K H a xs := .inr h
/-- a pair of ints stands there -/
def At2 (H : Hp) (b : Addr) (p : Int × Int) : Prop := H b = some (.tup [.int p.1, .int p.2])
/-- a new pair is told -/
def New2 (H : Hp) (p : Int × Int) (Q : VK) : Prop := ∀ b H', Same H H' → At2 H' b p → Q (.ref b) H'
theorem New2.mk {H : Hp} {x y : Int} {Q : VK} (q : New2 H (x, y) Q) : ∀ b, H b = none → Q (.ref b) (upd H b (.tup [.int x, .int y])) := fun b hb => q b _ (same_new hb _) upd_same
def sp_many : Sp := fun vs H Q _ => ∃ (y : PySem.Str) (n : Nat), vs = [.str y, .int n] ∧ Fo y ∧ n ≤ 2 ^ (cs y).length ∧ Q .non H
def sp_corners : Sp := fun vs H Q _ => ∃ (a : Addr) (p : Int × Int) (q : Int), vs = [.ref a, .int q] ∧ At2 H a p ∧ (q = 1 ∨ q = -1) ∧ New2 H (p.1 - q * p.2, p.2 + q * p.1) Q
def sp_further : Sp := fun vs H Q _ => ∃ (a : Addr) (p : Int × Int) (t : Int) (h : Nat), vs = [.ref a, .int t] ∧ At2 H a p ∧ t % 4 = h ∧ New2 H (p.1 + (dir h).1, p.2 + (dir h).2) Q
def sp_place : Sp := fun vs H Q _ => ∃ (y : PySem.Str) (n : Nat), vs = [.str y, .int n] ∧ Fo y ∧ n ≤ 2 ^ (cs y).length ∧ New2 H (pos (cs y) n) Q
theorem small2 : 2 ≤ sizeLine := small (by decide)
theorem At2.sq {K : PySem.W.Frag} {H : Hp} {b : Addr} {p : Int × Int} (h : At2 H b p) : SqT K H b [.int p.1, .int p.2] := SqT.of h
theorem At2.same {H H' : Hp} {b : Addr} {p : Int × Int} (h : At2 H b p) (g : Same H H') : At2 H' b p := g _ _ h
theorem quarter_of {P : Program} {w : World} {c : Nat} (hc : c = 108 ∨ c = 114) : lookup (.str ⟨#[c]⟩) (tabQ.map fun p => (PyData.str p.1, p.2)) = some (.int (qt c)) := by
  rcases hc with rfl | rfl <;> kernel_rfl
theorem xor_bits {a b : Nat} (ha : a < 2) (hb : b < 2) : Builtin.bitXor (a : Int) (b : Int) = ((xr a b : Nat) : Int) := by
  rcases (show a = 0 ∨ a = 1 by omega) with rfl | rfl <;> rcases (show b = 0 ∨ b = 1 by omega) with rfl | rfl <;> decide +kernel
theorem dir_at {h : Nat} (hh : h < 4) {a0 a1 a2 a3 : Addr} : ∃ a, atI [V.ref a0, .ref a1, .ref a2, .ref a3] (h : Int) = some (.ref a) ∧
    ((a = a0 ∧ dir h = (1, 0)) ∨ (a = a1 ∧ dir h = (0, 1)) ∨ (a = a2 ∧ dir h = (-1, 0)) ∨ (a = a3 ∧ dir h = (0, -1))) := by
  rcases (show h = 0 ∨ h = 1 ∨ h = 2 ∨ h = 3 by omega) with rfl | rfl | rfl | rfl
  · exact ⟨a0, rfl, .inl ⟨rfl, rfl⟩⟩
  · exact ⟨a1, rfl, .inr (.inl ⟨rfl, rfl⟩)⟩
  · exact ⟨a2, rfl, .inr (.inr (.inl ⟨rfl, rfl⟩))⟩
  · exact ⟨a3, rfl, .inr (.inr (.inr ⟨rfl, rfl⟩))⟩
end Fc

set_option Elab.async false
set_option linter.all false
set_option maxRecDepth 100000
namespace L2
open PySem PySem.Spec PyProof.Rows
section
variable {X : Cx}
theorem sl_str : SlR X (fun x lo hi H Q => ∃ z, x = .str z ∧ z.length ≤ sizeLine ∧ Q (.str (Txt.slice z lo hi)) H) := by
  intro pins s σ H x v vl vu lo hi sl Q I rx hs pl pu h
  obtain ⟨z, rfl, hz, q⟩ := h
  obtain ⟨t, rfl⟩ := rx
  refine ⟨"str", _, F.slot_str_getitem.lookup, typeIs_str _ _ _, ?_⟩
  have fin : ∀ t' k, EP X pins σ Q (.str (Txt.slice z lo hi) t') { s with toks := k } := fun t' k => ⟨.str _, H, I.tok _, ⟨_, rfl⟩, q⟩
  cases pl with
  | none =>
    cases pu with
    | none => exact wpAny_getItem_str_slice (l := none) (u := none) (st := none) hs rfl (post_val_or_str ⟨Nat.le_trans (Txt.slice_le z _ _) hz, fin⟩)
    | int j uj => exact wpAny_getItem_str_slice (l := none) (u := some (j, uj)) (st := none) hs rfl (post_val_or_str ⟨Nat.le_trans (Txt.slice_le z _ _) hz, fin⟩)
  | int i ui =>
    cases pu with
    | none => exact wpAny_getItem_str_slice (l := some (i, ui)) (u := none) (st := none) hs rfl (post_val_or_str ⟨Nat.le_trans (Txt.slice_le z _ _) hz, fin⟩)
    | int j uj => exact wpAny_getItem_str_slice (l := some (i, ui)) (u := some (j, uj)) (st := none) hs rfl (post_val_or_str ⟨Nat.le_trans (Txt.slice_le z _ _) hz, fin⟩)
end
section
variable {te : TE} {ρ : St} {H1 : Hp} {Q : VK} {p : Addr}
end
end L2

set_option Elab.async false
set_option linter.all false
set_option maxRecDepth 100000
set_option maxHeartbeats 4000000
namespace Fc
open PySem PySem.Spec PyProof.Rows L2
/-- a text by its codes -/
def tx (l : List Nat) : PySem.Str := ⟨l.toArray⟩
end Fc

set_option Elab.async false
set_option linter.all false
set_option maxRecDepth 100000
namespace L2
open PySem PySem.Spec PyProof.Rows
/-- how an exception lies behind a call: it flies above the callers' frames; B holds all that stands but these frames and what is new -/
def CXE (P : Program) (w : World) : CXT := fun outer H s E e s' => ∃ (x : Addr) (cls a0 : Value) (H' : Hp) (B : Heap), e = .ref x ∧ s'.os = s.os ∧ AllBare s'.gens ∧ Un (frs outer) [] H H' s.heap s'.heap ∧ HOk P w H' s'.heap ∧
  Heap.FlyingW B outer x cls a0 s'.heap ∧ (∀ b, B.get? b = none → b ∈ frs outer ∨ (H' b = none ∧ s.heap.get? b = none)) ∧ E cls none H'
theorem un_up {fs : List Addr} {H H' : Hp} {h h1 h2 B : Heap} (u : Un fs [] H H' h h1) (b1 : B.StaysIn h1) (b2 : B.StaysIn h2) (up : h1.UpToSlots h2) (inB : ∀ b, B.get? b = none → b ∈ fs ∨ h.get? b = none)
    (fr : ∀ b ∈ fs, ∀ o, h1.get? b = some o → ∀ vs, o.data ≠ .fields vs) : Un fs [] H H' h h2 where
  keep := fun b o e n nb nx => by
    have e1 := u.keep b o e n nb nx
    cases q : B.get? b with
    | none =>
      rcases inB b q with z | z
      · exact absurd z nb
      · rw [e] at z; cases z
    | some oB =>
      have := b1 b oB q
      rw [e1] at this
      cases this
      exact b2 b _ q
  slot := fun b o e n nb nx => by
    obtain ⟨sl, e1⟩ := u.slot b o e n nb nx
    obtain ⟨sl2, e2⟩ := up b _ e1 (fr b nb _ e1)
    exact ⟨sl2, e2⟩
  free := u.free
  there := fun b o e nx => by
    obtain ⟨o', e1⟩ := u.there b o e nx
    cases q : B.get? b with
    | none =>
      rcases inB b q with z | z
      · obtain ⟨sl2, e2⟩ := up b _ e1 (fr b z _ e1)
        exact ⟨_, e2⟩
      · rw [e] at z; cases z
    | some oB => exact ⟨oB, b2 b _ q⟩
  tups := u.tups
  frzs := u.frzs
  tbls := u.tbls
theorem hok_up {P : Program} {w : World} {H : Hp} {h1 h2 B : Heap} (x : HOk P w H h1) (b1 : B.StaysIn h1) (b2 : B.StaysIn h2) (inB : ∀ b, B.get? b = none → H b = none) : HOk P w H h2 := fun a o e => by
  refine (x a o e).stay (fun b u hb q => ?_) (fun _ z => z) fun _ _ z => z
  cases q2 : B.get? b with
  | none =>
    have z := inB b q2
    rcases hb with rfl | hb
    · rw [e] at z; cases z
    · rw [hb] at z; cases z
  | some oB =>
    have := b1 b oB q2
    rw [q] at this
    cases this
    exact b2 b _ q2
/-- an exception in flight over a body: what was true at the call that raised it, and what a call's exception says -/
def Fly (X : Cx) (pins : List (Addr × Obj)) (σ : St) (H : Hp) (x : Addr) (cls : Value) (s : Shared) : Prop :=
  ∃ (sC : Shared) (Hc : Hp) (B : Heap) (a0 : Value), Inv X pins σ Hc sC ∧ s.os = sC.os ∧ AllBare s.gens ∧ Un (frs X.stack) [] Hc H sC.heap s.heap ∧ HOk X.prog X.w H s.heap ∧ Heap.FlyingW B X.stack x cls a0 s.heap ∧
    ∀ b, B.get? b = none → b ∈ frs X.stack ∨ (H b = none ∧ sC.heap.get? b = none)
theorem fly_of_call {X : Cx} {pins : List (Addr × Obj)} {σ : St} {H : Hp} {s s' : Shared} {E : XK} {e : Value} (I : Inv X pins σ H s) (h : CXE X.prog X.w X.stack H s E e s') :
    ∃ x cls H', e = .ref x ∧ Fly X pins σ H' x cls s' ∧ E cls none H' := by
  obtain ⟨x, cls, a0, H', B, rfl, os, bare, un, hok, fl, inB, q⟩ := h
  exact ⟨x, cls, H', rfl, ⟨s, H, B, a0, I, os, bare, un, hok, fl, inB⟩, q⟩
theorem frames_data {X : Cx} {pins : List (Addr × Obj)} {σ : St} {H : Hp} {s : Shared} (I : Inv X pins σ H s) : ∀ b ∈ frs X.stack, ∀ o, s.heap.get? b = some o → ∀ vs, o.data ≠ .fields vs := fun b hb o e => by
  obtain ⟨_, o', e', hd⟩ := I.stack.mem hb
  rw [e] at e'
  cases e'
  exact hd
/-- a body at a def's own level -/
structure Lvl (X : Cx) : Prop where
  ex : X.ex = []
  stk : X.stack = X.env :: X.outer
  frame : X.env.frame = some X.env.locals
theorem Lvl.sub {X : Cx} (L : Lvl X) {b : Addr} (h : b ∈ frs X.stack) : b = X.env.locals ∨ b ∈ X.fs := by
  rw [L.stk] at h
  have h' : b ∈ List.filterMap (·.frame) (X.env :: X.outer) := h
  rw [List.filterMap_cons, L.frame] at h'
  exact List.mem_cons.mp h'
theorem Lvl.sup {X : Cx} (L : Lvl X) {b : Addr} (h : b ∈ X.fs) : b ∈ frs X.stack := by
  rw [L.stk]
  show b ∈ List.filterMap (·.frame) (X.env :: X.outer)
  rw [List.filterMap_cons, L.frame]
  exact List.mem_cons_of_mem _ h
theorem above_none {X : Cx} (ok : X.Ok) : X.s₀.heap.get? X.env.locals = none := by
  cases q : X.s₀.heap.get? X.env.locals with
  | none => rfl
  | some o => exact absurd (Nat.lt_of_lt_of_le (Heap.lt_size q) ok.above) (Nat.lt_irrefl _)
/-- what is left when a body has been left by an exception -/
theorem up_cxe {X : Cx} {pins : List (Addr × Obj)} {σ : St} {H : Hp} {s : Shared} {h' B : Heap} {x : Addr} {cls a0 : Value} {E : XK} (L : Lvl X) (I : Inv X pins σ H s) (b1 : B.StaysIn s.heap) (up : s.heap.UpToSlots h') (fl : Heap.FlyingW B X.outer x cls a0 h')
    (inB : ∀ b, B.get? b = none → b ∈ frs X.stack ∨ (H b = none ∧ X.s₀.heap.get? b = none)) (q : E cls none H) : CXE X.prog X.w X.outer X.H₀ X.s₀ E (.ref x) { s with heap := h' } := by
  have hB : ∀ b, B.get? b = none → b ∈ X.fs ∨ (H b = none ∧ X.s₀.heap.get? b = none) := fun b hb => by
    rcases inB b hb with z | z
    · rcases L.sub z with rfl | z
      · exact .inr ⟨I.free, above_none I.ok⟩
      · exact .inl z
    · exact .inr z
  have base : Un X.fs [] X.H₀ H X.s₀.heap s.heap := by
    have := I.base
    rw [L.ex] at this
    exact this
  refine ⟨x, cls, a0, H, B, rfl, I.os, I.bare, un_up base b1 fl.1 up (fun b hb => (hB b hb).imp id (·.2)) (fun b hb => frames_data I b (L.sup hb)), hok_up I.hok b1 fl.1 fun b hb => ?_, fl, hB, q⟩
  rcases inB b hb with z | z
  · exact I.stkFree b z
  · exact z.1
theorem inB_free {X : Cx} {pins : List (Addr × Obj)} {σ : St} {H H' : Hp} {s : Shared} {B : Heap} {h' : Heap} (I : Inv X pins σ H s) (u : Un (frs X.stack) [] H H' s.heap h') (inB : ∀ b, B.get? b = none → b ∈ frs X.stack ∨ (H' b = none ∧ s.heap.get? b = none)) :
    ∀ b, B.get? b = none → H' b = none := fun b hb => by
  rcases inB b hb with z | z
  · obtain ⟨_, o, e, _⟩ := I.stack.mem z
    exact u.free b o e (I.stkFree b z) (by simp)
  · exact z.1
/-- the body goes on behind: the frames' slots have changed, and the exception's own things -/
theorem fly_up {X : Cx} {pins : List (Addr × Obj)} {σ : St} {H Hc : Hp} {s sC : Shared} {B h' : Heap} {t' : Nat} (I : Inv X pins σ Hc sC) (os : s.os = sC.os) (bare : AllBare s.gens) (un : Un (frs X.stack) [] Hc H sC.heap s.heap) (hok : HOk X.prog X.w H s.heap)
    (b1 : B.StaysIn s.heap) (b2 : B.StaysIn h') (up : s.heap.UpToSlots h') (inB : ∀ b, B.get? b = none → b ∈ frs X.stack ∨ (H b = none ∧ sC.heap.get? b = none)) : Inv X pins σ H { s with heap := h', toks := t' } := by
  have fr : ∀ b ∈ frs X.stack, ∀ o, s.heap.get? b = some o → ∀ vs, o.data ≠ .fields vs := fun b hb o e => by
    obtain ⟨_, o', e', hd⟩ := I.stack.mem hb
    obtain ⟨sl, e2⟩ := un.slot b o' e' (I.stkFree b hb) hb (by simp)
    rw [e] at e2
    cases e2
    exact hd
  exact I.call' (s' := { s with heap := h', toks := t' }) os (un_up un b1 b2 up (fun b hb => (inB b hb).imp id (·.2)) fr) (hok_up hok b1 b2 (inB_free I un inB)) bare (fun b z => absurd z (by simp))
theorem leave_fly {X : Cx} {pins : List (Addr × Obj)} {σ : St} {H : Hp} {s : Shared} {x : Addr} {cls : Value} {E : XK} {Ex : Value → Shared → Prop} (L : Lvl X) (F : Fly X pins σ H x cls s) (q : E cls none H) :
    wpAny (model X.prog X.w) X.A (leaving X.env (.ref x)) (fun _ s'' => CXE X.prog X.w X.outer X.H₀ X.s₀ E (.ref x) s'') Ex s := by
  obtain ⟨sC, Hc, B, a0, I, os, bare, un, hok, fl, inB⟩ := F
  have I2 : Inv X pins σ H s := I.call' os un hok bare (fun b z => absurd z (by simp))
  have hfr := I.ok.frames
  rw [L.stk] at hfr
  have fl' := fl
  rw [L.stk] at fl'
  refine wpAny_leaves_onW hfr L.frame fl' fun h' fl2 up => up_cxe L I2 fl.1 up fl2 (fun b hb => (inB b hb).imp id fun z => ⟨z.1, ?_⟩) q
  cases q0 : X.s₀.heap.get? b with
  | none => rfl
  | some o =>
    obtain ⟨o', e'⟩ := I.base.there b o q0 (by rw [L.ex]; simp)
    rw [z.2] at e'
    cases e'
theorem objThere {P : Program} {w : World} {H : Hp} {h : Heap} {a : Addr} {o : HO} (x : HOk P w H h) (e : H a = some o) (z : h.get? a = none) : False := by
  have y := x a o e
  have : ∃ ob, h.get? a = some ob := by
    clear e
    induction o with
    | lst xs => obtain ⟨_, _, _, _, q⟩ := y; exact ⟨_, q⟩
    | tup xs => obtain ⟨_, _, _, ob, q, _⟩ := y; exact ⟨_, q⟩
    | dK kvs => obtain ⟨_, _, _, _, ob, _, _, q, _⟩ := y; exact ⟨_, q⟩
    | dT kvs => obtain ⟨_, _, _, _, ob, _, _, q, _⟩ := y; exact ⟨_, q⟩
    | set S n => obtain ⟨ob, _, _, _, q, _⟩ := y; exact ⟨_, q⟩
    | ins C dx fs => obtain ⟨_, _, _, q, _⟩ := y; exact ⟨_, q⟩
    | own x => exact y
    | xd fs => obtain ⟨_, ⟨ob, _, _, q, _⟩, _⟩ := y; exact ⟨_, q⟩
    | rng lo hi => obtain ⟨_, _, _, q⟩ := y; exact ⟨_, q⟩
    | frz ob u ih => exact ⟨_, y.1⟩
    | tbl ps => exact ⟨_, y⟩
    | met f x => exact ⟨_, y⟩
    | ext φ => exact y.2.1
  obtain ⟨ob, q⟩ := this
  rw [z] at q
  cases q
theorem leave_made {X : Cx} {pins : List (Addr × Obj)} {σ : St} {H : Hp} {s : Shared} {h' : Heap} {x : Addr} {cls : Value} {vs : List Value} {E : XK} {Ex : Value → Shared → Prop} (L : Lvl X) (I : Inv X pins σ H s) (m : Heap.MadeExcOf s.heap h' x cls vs) (q : E cls none H) :
    wpAny (model X.prog X.w) X.A (leaving X.env (.ref x)) (fun _ s'' => CXE X.prog X.w X.outer X.H₀ X.s₀ E (.ref x) s'') Ex { s with heap := h' } := by
  have hfr := I.ok.frames
  rw [L.stk] at hfr
  have st := I.stack
  have hin : ∀ env ∈ X.stack, ∀ a, env.frame = some a → a ∈ frs X.stack := fun env he b hb => List.mem_filterMap.mpr ⟨env, he, hb⟩
  have st2 := PySem.W.funFrames_hide st hin
  rw [L.stk] at st2
  refine wpAny_leaves_madeW (h := s.heap) hfr L.frame (fun b o q => PySem.W.of_hideAll _ q) st2 m fun h2 t fl _ _ up => ?_
  refine up_cxe (s := s) (B := PySem.W.hideAll s.heap (frs (X.env :: X.outer))) L I (fun b o q => PySem.W.of_hideAll _ q) ((Heap.UpToSlots.of_keeps m.keeps).trans up) fl (fun b hb => ?_) q
  by_cases c : b ∈ frs X.stack
  · exact .inl c
  · refine .inr ?_
    have z : s.heap.get? b = none := by
      cases z : s.heap.get? b with
      | none => rfl
      | some o =>
        have := PySem.W.hideAll_get (frs (X.env :: X.outer)) z (by rw [← L.stk]; exact c)
        rw [hb] at this
        cases this
    refine ⟨?_, ?_⟩
    · cases e : H b with
      | none => rfl
      | some o => exact (objThere I.hok e z).elim
    · cases q0 : X.s₀.heap.get? b with
      | none => rfl
      | some o =>
        obtain ⟨o', e'⟩ := I.base.there b o q0 (by rw [L.ex]; simp)
        rw [z] at e'
        cases e'
/-- what a body wants of an exception: its class, the slots, the heap -/
abbrev RX := Value → St → Hp → Prop
def Thr (X : Cx) (R : RX) : Prop := ∀ pins σ H x cls s, Fly X pins σ H x cls s → R cls σ H → X.xe (.ref x) s
section
variable {X : Cx} {k : Nat} {ps : List Str} {sp : Sp} {x : Str} {p pos : Pos} {e : Expr} {es : List Expr} {t : TA} {R : RX}
/-- a call whose callee may raise: E of the callee is R at these slots -/
def tCallX (sp : Sp) (R : RX) (t : TA) : TE := fun σ H Q => t σ H fun vs H1 => sp vs H1 Q fun cls _ H' => R cls σ H'
theorem run_fnX {f : Addr} {fd : FuncData} {pins : List (Addr × Obj)} {σ : St} {H : Hp} {s : Shared} {Q : VK} {us : List Value} {vs : List V} (F : FnOk X.prog X.w X.K X.mg X.base (CXE X.prog X.w) k f fd ps sp) (hr : Room k X.A) (hb : Binds X.K fd ps []) (hT : Thr X R)
    (I : Inv X pins σ H s) (r : Vals vs us) (h : sp vs H Q fun cls _ H' => R cls σ H') : wpAny (model X.prog X.w) X.A (call (.ref f) us) (EP X pins σ Q) X.xe s := by
  have hl : us.length = ps.length := by rw [← r.length]; exact F.len _ _ _ _ h
  have hb' := hb s us I.kIn (by rw [List.append_nil]; exact hl)
  rw [List.append_nil] at hb'
  refine wpAny_call (codeAny_mono (F.run X.A X.stack s H ⟨us, []⟩ us vs Q _ hr I.env0 hb' r h) fun r s' hq => ?_)
  cases r with
  | error e =>
    obtain ⟨x, cls, H', rfl, fl, q⟩ := fly_of_call I (show CXE X.prog X.w X.stack H s (fun cls _ H' => R cls σ H') e s' from hq)
    exact hT _ _ _ _ _ _ fl q
  | ok fl =>
    cases fl with
    | ret u => exact I.after hq
    | next => exact False.elim hq
    | brk => exact False.elim hq
    | cont => exact False.elim hq
/-- a def of the top that may raise -/
def HasX (P : Program) (w : World) (K : PySem.W.Frag) (mg : Str → Option Value) (base : Heap) (x : Str) (k : Nat) (ps : List Str) (sp : Sp) : Prop :=
  ∃ (f : Addr) (fd : FuncData), FnOk P w K mg base (CXE P w) k f fd ps sp ∧ Binds K fd ps [] ∧ mg x = some (.ref f) ∧ PySem.W.keepIn K (.ref f) = true
theorem pe_fnX {j : Nat} (C : HasX X.prog X.w X.K X.mg X.base x j ps sp) (hr : Room k X.A) (hg : Gl X x) (hT : Thr X R) (ha : PA X (e :: es) t) (hk : j ≤ k := by decide)
    (hdb : (x == ("__debug__" : Str)) = false := by decide) (he : starEach (e :: es) X.env = (false, eval e X.env) :: starEach es X.env := by rfl) (hpl : (backTo pos (starEach es X.env)).any (·.1) = false := by rfl) :
    PE X (.Call (.Name x p) (e :: es) [] pos) (tCallX sp R t) := by
  obtain ⟨f, fd, F, b, m, kp⟩ := C
  intro pins s σ H Q I h
  refine wpAny_Call_Name_kw (ld_glob I hg m ?_ hdb)
  refine PySem.W.callWith_K (h₀ := X.base) I.ok.mod.kin kp (thn (ha pos pins s σ H _ I h) fun us s1 ⟨vs, H1, I1, r, q⟩ => ⟨I1.kIn, ?_⟩) he hpl
  exact run_fnX (F.mono hk) hr b hT I1 r q
/-- a def's body that may raise -/
theorem thr_cx {P : Program} {w : World} {K : PySem.W.Frag} {mg : Str → Option Value} {base : Heap} {N : List Str} {qual : Str} {scope : Scope} {f : Addr} {cd : Value} {A : Around} {outer : List Env} {s : Shared} {H : Hp} {E : XK} :
    Thr (cxOf (CXE P w) P w K mg base N qual scope f cd A outer s H E) (fun cls _ H' => E cls none H') := fun pins σ H' x cls s' fl q =>
  leave_fly (X := cxOf (CXE P w) P w K mg base N qual scope f cd A outer s H E) ⟨rfl, rfl, rfl⟩ fl q
theorem Fun.okX {P : Program} {w : World} {K : PySem.W.Frag} {mg : Str → Option Value} {base : Heap} {x qual : Str} {st : Stmt} {f : Addr} {fd : FuncData} {N ps : List Str} {k : Nat} {sp : Sp} (F : Fun K x qual st f fd) (S : FnScope N ps (defScope st)) (len : ∀ vs H Q E, sp vs H Q E → vs.length = ps.length)
    (hbody : ∀ (cdv : Value) (A : Around) (outer : List Env) (s : Shared) (H : Hp) (vs : List V) (Q : VK) (E : XK), Room k (A.deeper (envOfC qual (defScope st) s.heap.objs.size f cdv)) → sp vs H Q E →
      ∃ t, PSs (cxOf (CXE P w) P w K mg base N qual (defScope st) f cdv A outer s H E) (defBody st) t ∧ t { nx := fun _ H' => Q .non H', rt := Q } (start N vs) H) : FnOk P w K mg base (CXE P w) (k + 1) f fd ps sp := by
  obtain ⟨oc, od, kV, doc, pm, an, cdv, ct, osl, rfl, lk, hcd⟩ := F.ex
  exact fn_of lk hcd S len fun A outer s H vs Q E hr hsp => hbody cdv A outer s H vs Q E hr hsp
/-- the class object of an own error class -/
theorem exc_obj {K : PySem.W.Frag} {h : Heap} {C : Addr} {bm : List Value} {newId : String} (X : K.In h) (q : PySem.W.excIn K C bm newId = true) :
    ∃ tl N nm qn bs hdct sn sub ab col dd k0 k1 k2 k3 k5 mN, h.get? C = some (excClassObj nm qn C N bs tl hdct sn sub ab col dd k0 k1 k2 k3 k5 newId) ∧ h.Ns N mN ∧ mN "__init__" = none ∧ OwnTail h bm tl := by
  unfold PySem.W.excIn at q
  split at q <;> try (cases q; done)
  rename_i dd cd sl ho
  split at q <;> try (cases q; done)
  rename_i C2 tl k0 k1 k2 k3 n k5 hm hs
  simp only [Bool.and_eq_true, beq_iff_eq, Bool.not_eq_true'] at q
  obtain ⟨⟨⟨⟨⟨e1, e2⟩, nodel⟩, tail⟩, nsok⟩, noinit⟩ := q
  subst e1 e2
  obtain ⟨nm, bs, mro, ns, qn, hd, sn, sub, ab, col, del⟩ := cd
  dsimp only at hm nodel nsok noinit
  subst hm nodel
  obtain ⟨l⟩ := sl
  have hl : l = [k0, k1, k2, k3, some (.builtin n), k5] := hs
  subst hl
  refine ⟨tl, ns, nm, qn, bs, hd, sn, sub, ab, col, dd, k0, k1, k2, k3, k5, _, X _ _ ho, .of_isNs (PySem.W.isNs_of_in X nsok), ?_, PySem.W.tail_of_in X tail⟩
  exact PySem.W.nsMap_none_of_in X nsok noinit
theorem small1 {v : Value} : ([v].length : Nat) ≤ sizeLine := by rw [sizeLine_eq]; exact Nat.le_of_ble_eq_true rfl
/-- raise C('..') -/
theorem ps_raise {P : Program} {w : World} {K : PySem.W.Frag} {mg : Str → Option Value} {base : Heap} {N : List Str} {qual : Str} {scope : Scope} {f : Addr} {cd : Value} {A : Around} {outer : List Env} {s₀ : Shared} {H₀ : Hp} {E : XK}
    {C : Addr} {bm bmN : List Value} {B Bn newId nid initId inN : String} {np cpos : Pos} (hm : mg x = some (.ref C)) (O : PySem.W.excIn K C bm newId = true) (Fn : ExcBaseFacts Bn newId inN bmN) (hBn : bm.contains (.type Bn) = true) (FB : ExcBaseFacts B nid initId bm)
    (hg : Gl (cxOf (CXE P w) P w K mg base N qual scope f cd A outer s₀ H₀ E) x) {ta : TE} (ha : PE (cxOf (CXE P w) P w K mg base N qual scope f cd A outer s₀ H₀ E) e ta)
    (hs1 : starEach [e] (cxOf (CXE P w) P w K mg base N qual scope f cd A outer s₀ H₀ E).env = [(false, eval e (cxOf (CXE P w) P w K mg base N qual scope f cd A outer s₀ H₀ E).env)] := by rfl) (hdb : (x == ("__debug__" : Str)) = false := by decide) :
    PS (cxOf (CXE P w) P w K mg base N qual scope f cd A outer s₀ H₀ E) (.Raise (some (.Call (.Name x np) [e] [] cpos)) none pos) (fun _ σ H => ta σ H fun _ H1 => E (.ref C) none H1) := by
  intro pins s σ H D I h
  obtain ⟨tl, N', nm, qn, bs, hdct, sn, sub, ab, col, dd, k0, k1, k2, k3, k5, mN, hC, hN, hni, T⟩ := exc_obj I.ok.mod.kin O
  refine wpAny_Raise_call_subU (C := C) (nm := nm) (q := qn) (N := N') (bs := bs) (bm := tl) (hdct := hdct) (sn := sn) (sub := sub) (ab := ab) (col := col) (dd := dd) (k0 := k0) (k1 := k1) (k2 := k2) (k3 := k3) (k5 := k5)
    Fn hBn FB (mN := mN) (T.hasType FB.hasBase) (I.ok.hd rfl) (by rw [hs1]; rfl) hni (ld_glob I hg hm ⟨rfl, ?_⟩ hdb)
  rw [hs1]
  refine Calls.evalArgs_plain (Calls.spliced_cons (thn (ha pins s σ H _ I h) fun u s1 ⟨v, H1, I1, r1, q1⟩ => Calls.spliced_nil ?_))
  refine ⟨rfl, small1 , I1.bk _ _ hC, hN.keeps I1.bk, T.keeps I1.bk, fun h' x m => ?_⟩
  exact leave_made (X := cxOf (CXE P w) P w K mg base N qual scope f cd A outer s₀ H₀ E) ⟨rfl, rfl, rfl⟩ I1 m q1
end
/-- the body of a try -/
def Cx.tryC (X : Cx) (pins : List (Addr × Obj)) (R : RX) : Cx := { X with pn := X.pn ++ pins, xe := fun e s' => ∃ x cls σ' H', e = .ref x ∧ Fly X pins σ' H' x cls s' ∧ R cls σ' H' }
/-- the suite of an except clause -/
def Cx.hand (X : Cx) (x : Addr) : Cx := { X with A := X.A.mark (some (.ref x)), calm := false, xe := fun _ _ => False }
section
variable {X : Cx} {pins : List (Addr × Obj)} {σ : St} {H : Hp} {s : Shared} {R : RX} {x : Addr}
theorem Inv.tryC (I : Inv X pins σ H s) (R : RX) : Inv (X.tryC pins R) [] σ H s :=
  ⟨⟨I.ok.mod, I.ok.kind, I.ok.glob, I.ok.blt, I.ok.above, I.ok.inj, I.ok.has, I.ok.cab, I.ok.hd, I.ok.frames, I.ok.stk, I.ok.exf, I.ok.bs, I.ok.bsz, I.ok.noex, I.ok.exfs, I.ok.funs, I.ok.frf⟩, I.os, I.bare, I.base, I.loc, I.cell, I.free, I.freeC,
    fun p hp => I.pin p (by rw [List.append_nil] at hp; exact hp), I.hok, I.len⟩
theorem Inv.untryC {pins' : List (Addr × Obj)} (I : Inv (X.tryC pins R) pins' σ H s) : Inv X pins σ H s :=
  ⟨⟨I.ok.mod, I.ok.kind, I.ok.glob, I.ok.blt, I.ok.above, I.ok.inj, I.ok.has, I.ok.cab, I.ok.hd, I.ok.frames, I.ok.stk, I.ok.exf, I.ok.bs, I.ok.bsz, I.ok.noex, I.ok.exfs, I.ok.funs, I.ok.frf⟩, I.os, I.bare, I.base, I.loc, I.cell, I.free, I.freeC,
    fun p hp => I.pin p (List.mem_append_left _ hp), I.hok, I.len⟩
theorem thr_try {X : Cx} {pins : List (Addr × Obj)} {R : RX} : Thr (X.tryC pins R) R := fun pins' σ H x cls s fl q => by
  obtain ⟨sC, Hc, B, a0, I, r⟩ := fl
  exact ⟨x, cls, σ, H, rfl, ⟨sC, Hc, B, a0, I.untryC, r⟩, q⟩
theorem Inv.hand (I : Inv X pins σ H s) (x : Addr) : Inv (X.hand x) pins σ H s :=
  ⟨⟨I.ok.mod, I.ok.kind, I.ok.glob, I.ok.blt, I.ok.above, I.ok.inj, I.ok.has, I.ok.cab, fun z => (by cases z), I.ok.frames, I.ok.stk, I.ok.exf, I.ok.bs, I.ok.bsz, I.ok.noex, I.ok.exfs, I.ok.funs, I.ok.frf⟩, I.os, I.bare, I.base, I.loc, I.cell, I.free, I.freeC, I.pin, I.hok, I.len⟩
theorem Inv.unhand (hd : X.calm = true → X.A.handled = none) (I : Inv (X.hand x) pins σ H s) : Inv X pins σ H s :=
  ⟨⟨I.ok.mod, I.ok.kind, I.ok.glob, I.ok.blt, I.ok.above, I.ok.inj, I.ok.has, I.ok.cab, hd, I.ok.frames, I.ok.stk, I.ok.exf, I.ok.bs, I.ok.bsz, I.ok.noex, I.ok.exfs, I.ok.funs, I.ok.frf⟩, I.os, I.bare, I.base, I.loc, I.cell, I.free, I.freeC, I.pin, I.hok, I.len⟩
theorem SP.untryC {pins' : List (Addr × Obj)} {D : Ends} {f : Flow} {s' : Shared} (h : SP (X.tryC pins R) pins' D f s') : SP X pins D f s' := by
  cases f with
  | next => obtain ⟨σ', H', I, q⟩ := h; exact ⟨σ', H', I.untryC, q⟩
  | brk => obtain ⟨σ', H', I, q⟩ := h; exact ⟨σ', H', I.untryC, q⟩
  | cont => obtain ⟨σ', H', I, q⟩ := h; exact ⟨σ', H', I.untryC, q⟩
  | ret u => obtain ⟨v, σ', H', I, r, q⟩ := h; exact ⟨v, σ', H', I.untryC, r, q⟩
theorem SP.unhand (hd : X.calm = true → X.A.handled = none) {D : Ends} {f : Flow} {s' : Shared} (h : SP (X.hand x) pins D f s') : SP X pins D f s' := by
  cases f with
  | next => obtain ⟨σ', H', I, q⟩ := h; exact ⟨σ', H', I.unhand hd, q⟩
  | brk => obtain ⟨σ', H', I, q⟩ := h; exact ⟨σ', H', I.unhand hd, q⟩
  | cont => obtain ⟨σ', H', I, q⟩ := h; exact ⟨σ', H', I.unhand hd, q⟩
  | ret u => obtain ⟨v, σ', H', I, r, q⟩ := h; exact ⟨v, σ', H', I.unhand hd, r, q⟩
end
end L2

set_option Elab.async false
set_option linter.all false
set_option maxRecDepth 100000
set_option maxHeartbeats 4000000
namespace L2
open PySem PySem.Spec PyProof.Rows
section
variable {X : Cx}
variable {a b c d : Expr} {ta tb tc td : TE} {pos : Pos}
end
section
variable {P : Program} {w : World} {K : PySem.W.Frag} {mg : Str → Option Value} {base : Heap}
def HasMk (P : Program) (w : World) (K : PySem.W.Frag) (mg : Str → Option Value) (base : Heap) (x : Str) (C : Addr) (k : Nat) (ps : List Str) (sp : Sp) : Prop :=
  ∃ (f : Addr) (fd : FuncData), Mk K C f ∧ FnOk P w K mg base CX0 k f fd ps sp ∧ Binds K fd ps [] ∧ mg x = some (.ref C)
def HasMt (P : Program) (w : World) (K : PySem.W.Frag) (mg : Str → Option Value) (base : Heap) (C : Addr) (m : Str) (k : Nat) (ps : List Str) (sp : Sp) : Prop :=
  ∃ (f : Addr) (fd : FuncData), Cls K C ∧ Meth K C m f ∧ FnOk P w K mg base CX0 k f fd ps sp ∧ Binds K fd ps []
/-- a def of a class -/
def Dmk (K : PySem.W.Frag) (mg : Str → Option Value) (x : Str) (C : Addr) (qual : Str) (st : Stmt) (ps : List Str) : Prop := ∃ (f : Addr) (fd : FuncData), Mk K C f ∧ Fun K "__init__" qual st f fd ∧ Binds K fd ps [] ∧ mg x = some (.ref C)
def Dmt (K : PySem.W.Frag) (C : Addr) (m qual : Str) (st : Stmt) (ps : List Str) : Prop := ∃ (f : Addr) (fd : FuncData), Cls K C ∧ Meth K C m f ∧ Fun K m qual st f fd ∧ Binds K fd ps []
theorem Dmk.has {x qual : Str} {C : Addr} {st : Stmt} {k : Nat} {ps : List Str} {sp : Sp} (D : Dmk K mg x C qual st ps) (h : ∀ f fd, Fun K "__init__" qual st f fd → FnOk P w K mg base CX0 k f fd ps sp) : HasMk P w K mg base x C k ps sp :=
  let ⟨f, fd, M, F, b, m⟩ := D
  ⟨f, fd, M, h f fd F, b, m⟩
theorem Dmt.has {m qual : Str} {C : Addr} {st : Stmt} {k : Nat} {ps : List Str} {sp : Sp} (D : Dmt K C m qual st ps) (h : ∀ f fd, Fun K m qual st f fd → FnOk P w K mg base CX0 k f fd ps sp) : HasMt P w K mg base C m k ps sp :=
  let ⟨f, fd, c, M, F, b⟩ := D
  ⟨f, fd, c, M, h f fd F, b⟩
variable {X : Cx} {x m : Str} {C : Addr} {p pos apos : Pos} {o e : Expr} {es : List Expr} {ta : TE} {t : TA} {j k : Nat} {ps : List Str} {sp : Sp}
end
end L2
namespace Fc
open PySem PySem.Spec PyProof.Rows L2
theorem Df.hasX {P : Program} {w : World} {K : PySem.W.Frag} {mg : PySem.Str → Option Value} {base : Heap} {x : PySem.Str} {st : Stmt} {k : Nat} {ps : List PySem.Str} {sp : Sp} (D : Df K mg x st ps)
    (h : ∀ f fd, Fun K x x st f fd → FnOk P w K mg base (CXE P w) k f fd ps sp) : HasX P w K mg base x k ps sp :=
  let ⟨f, fd, F, b, m⟩ := D
  ⟨f, fd, h f fd F, b, m, F.kp⟩
/-- letters l and r alone -/
def lrB (l : List Nat) : Bool := l.all fun c => c == 108 || c == 114
theorem lrB_iff {l : List Nat} : lrB l = true ↔ Lr l := by
  unfold lrB Lr
  rw [List.all_eq_true]
  simp
theorem lrB_no {l : List Nat} (h : ¬ Lr l) : lrB l = false := by
  cases e : lrB l with
  | false => rfl
  | true => exact absurd (lrB_iff.mp e) h
theorem count_le : ∀ l : List Nat, l.count 108 + l.count 114 ≤ l.length
  | [] => Nat.le_refl _
  | c :: l => by
    have ih := count_le l
    rw [List.count_cons, List.count_cons, List.length_cons]
    by_cases h : c = 108
    · subst h; simp; omega
    · by_cases h2 : c = 114
      · subst h2; simp; omega
      · simp [h, h2]; omega
theorem count_all : ∀ {l : List Nat}, l.count 108 + l.count 114 = l.length → Lr l
  | [], _ => fun c h => by simp at h
  | c :: l, e => by
    have ih := count_le l
    rw [List.count_cons, List.count_cons, List.length_cons] at e
    by_cases h : c = 108
    · subst h
      simp at e
      have := count_all (l := l) (by omega)
      exact fun d hd => (List.mem_cons.mp hd).elim (fun z => .inl z) (this d)
    · by_cases h2 : c = 114
      · subst h2
        simp at e
        have := count_all (l := l) (by omega)
        exact fun d hd => (List.mem_cons.mp hd).elim (fun z => .inr z) (this d)
      · simp [h, h2] at e
        omega
theorem letters_eq (y : PySem.Str) : decide (V.int (Txt.count y (PySem.Str.ofString "l") + Txt.count y (PySem.Str.ofString "r")) = V.int (y.length : Int)) = lrB (cs y) := by
  by_cases h : Lr (cs y)
  · rw [lrB_iff.mpr h, decide_eq_true (congrArg V.int (count_lr h))]
  · rw [lrB_no h]
    refine decide_eq_false fun z => h (count_all ?_)
    have z := V.int.inj z
    rw [code_l, code_r] at z
    unfold Txt.count at z
    rw [count_one, count_one, ← cs_length] at z
    have z' : ((List.count 108 (cs y) : Nat) : Int) + ((List.count 114 (cs y) : Nat) : Int) = ((cs y).length : Int) := z
    omega
end Fc

set_option Elab.async false
set_option linter.all false
set_option maxRecDepth 100000
set_option maxHeartbeats 4000000
namespace L2
open PySem PySem.Spec PyProof.Rows
section
variable {X : Cx} {pins : List (Addr × Obj)} {σ : St} {H : Hp} {s : Shared} {h' : Heap}
end
section
variable {X : Cx}
variable {m : Str} {C C' : Addr} {pos apos : Pos} {o e : Expr} {es : List Expr} {ta : TE} {t : TA} {j j' k : Nat} {ps ps' : List Str} {sp sp' : Sp}
end
end L2

set_option Elab.async false
set_option linter.all false
set_option maxRecDepth 100000
set_option maxHeartbeats 4000000
namespace Fc
open PySem PySem.Spec PyProof.Rows L2
theorem kit_self (K : PySem.W.Frag) (t : Value) : PySem.W.kitOne K t t = some true := if_pos (by simp)
def FoldsAt (C : Addr) (H : Hp) (p : Addr) (y : PySem.Str) : Prop := ∃ dx, H p = some (.ins C dx [("folds", .str y)])
def UnlikeAt (C : Addr) (H : Hp) (p : Addr) (i j : Int) : Prop := ∃ dx, H p = some (.ins C dx [("one", .int i), ("other", .int j)])
theorem FoldsAt.same {C p : Addr} {H H' : Hp} {y : PySem.Str} (h : FoldsAt C H p y) (g : Same H H') : FoldsAt C H' p y := let ⟨dx, e⟩ := h; ⟨dx, g _ _ e⟩
theorem UnlikeAt.same {C p : Addr} {H H' : Hp} {i j : Int} (h : UnlikeAt C H p i j) (g : Same H H') : UnlikeAt C H' p i j := let ⟨dx, e⟩ := h; ⟨dx, g _ _ e⟩
theorem trnd_lr {c n : Nat} (h : c = 108 ∨ c = 114) : trnd c n = 108 ∨ trnd c n = 114 := by
  unfold trnd oth
  rcases h with rfl | rfl <;> rcases Nat.mod_two_eq_zero_or_one (plc n) with e | e <;> rw [e] <;> decide
theorem getD_set_self {l : List Nat} {j c : Nat} (h : j < l.length) : (l.set j c).getD j 0 = c := by simp [List.getD_eq_getElem?_getD, h]
theorem getD_set_ne {l : List Nat} {i j c : Nat} (h : i ≠ j) : (l.set j c).getD i 0 = l.getD i 0 := by simp [List.getD_eq_getElem?_getD, List.getElem?_set, Ne.symm h]
theorem lr_set {l : List Nat} {j c : Nat} (h : Lr l) (hc : c = 108 ∨ c = 114) : Lr (l.set j c) := fun d hd => by
  rcases List.mem_or_eq_of_mem_set hd with m | m
  · exact h d m
  · rw [m]; exact hc
/-- the state of the search behind so many places -/
structure Srch (t : List Nat) (a i : Nat) (fl : List Nat) (kvs : List (Key × V)) : Prop where
  lr : Lr fl
  few : kvs.length ≤ i
  no : ∀ v : Nat, valV kvs (Sum.inl (v : Int) : Key) = none → ∀ p, p < i → val2 (a + p) ≠ v
  yes : ∀ (v : Nat) (x : V), valV kvs (Sum.inl (v : Int) : Key) = some x → ∃ p : Nat, x = .int p ∧ p < i ∧ val2 (a + p) = v
  fit : ∀ p, p < i → fl.getD (val2 (a + p)) 0 = trnd (t.getD p 0) (a + p)
theorem Srch.start {t fl : List Nat} {a : Nat} (h : Lr fl) : Srch t a 0 fl [] := ⟨h, Nat.le_refl _, fun _ _ p hp => absurd hp (Nat.not_lt_zero _), fun v x e => (by cases e), fun p hp => absurd hp (Nat.not_lt_zero _)⟩
theorem Srch.same {t fl : List Nat} {a i : Nat} {kvs : List (Key × V)} {x : V} (S : Srch t a i fl kvs) (e : valV kvs (Sum.inl ((val2 (a + i) : Nat) : Int) : Key) = some x) (h : fl.getD (val2 (a + i)) 0 = trnd (t.getD i 0) (a + i)) : Srch t a (i + 1) fl kvs where
  lr := S.lr
  few := Nat.le_succ_of_le S.few
  no := fun v hv p hp => by
    rcases Nat.lt_succ_iff_lt_or_eq.mp hp with c | c
    · exact S.no v hv p c
    · subst c
      intro z
      rw [← z, e] at hv
      cases hv
  yes := fun v x hx => by
    obtain ⟨p, e1, e2, e3⟩ := S.yes v x hx
    exact ⟨p, e1, Nat.lt_succ_of_lt e2, e3⟩
  fit := fun p hp => by
    rcases Nat.lt_succ_iff_lt_or_eq.mp hp with c | c
    · exact S.fit p c
    · rw [c]; exact h
theorem Srch.new {t fl : List Nat} {a i : Nat} {kvs : List (Key × V)} (S : Srch t a i fl kvs) (e : valV kvs (Sum.inl ((val2 (a + i) : Nat) : Int) : Key) = none) (hc : t.getD i 0 = 108 ∨ t.getD i 0 = 114) (hl : val2 (a + i) < fl.length) :
    Srch t a (i + 1) (fl.set (val2 (a + i)) (trnd (t.getD i 0) (a + i))) (putK kvs (Sum.inl ((val2 (a + i) : Nat) : Int)) (.int (i : Nat))) where
  lr := lr_set S.lr (trnd_lr hc)
  few := by
    rw [putK_new _ e, List.length_append]
    exact Nat.succ_le_succ S.few
  no := fun v hv p hp => by
    rw [valV_put] at hv
    by_cases z : (Sum.inl (v : Int) : Key) = Sum.inl ((val2 (a + i) : Nat) : Int)
    · rw [if_pos z] at hv; cases hv
    · rw [if_neg z] at hv
      rcases Nat.lt_succ_iff_lt_or_eq.mp hp with c | c
      · exact S.no v hv p c
      · subst c
        exact fun y => z (by rw [y])
  yes := fun v x hx => by
    rw [valV_put] at hx
    by_cases z : (Sum.inl (v : Int) : Key) = Sum.inl ((val2 (a + i) : Nat) : Int)
    · rw [if_pos z] at hx
      cases hx
      exact ⟨i, rfl, Nat.lt_succ_self _, (Int.ofNat_inj.mp (Sum.inl.inj z)).symm⟩
    · rw [if_neg z] at hx
      obtain ⟨p, e1, e2, e3⟩ := S.yes v x hx
      exact ⟨p, e1, Nat.lt_succ_of_lt e2, e3⟩
  fit := fun p hp => by
    rcases Nat.lt_succ_iff_lt_or_eq.mp hp with c | c
    · rw [getD_set_ne (S.no _ e p c)]
      exact S.fit p c
    · rw [c, getD_set_self hl]
end Fc

set_option Elab.async false
set_option linter.all false
set_option maxRecDepth 100000
set_option maxHeartbeats 4000000
namespace L2
open PySem PySem.Spec PyProof.Rows
open Sem (wp)
/-- what an own error class must have, as the text has it -/
structure Exc (K : PySem.W.Frag) (C : Addr) : Prop where
  ex : PySem.W.excIn K C [.type "ValueError", .type "Exception", .type "BaseException", .type "object"] "ValueError.__new__" = true
  ga : PySem.W.findIn K (.ref C) "__getattribute__" = some (some (.builtin "BaseException.__getattribute__"))
  gt : PySem.W.findIn K (.ref C) "__getattr__" = some none
  cl : PySem.W.findIn K (.ref C) "__class__" = some (some (.builtin "object.__class__"))
  gg : PySem.W.specialIn K (.builtin "object.__class__") "__get__" = some (some (.builtin "getset_descriptor.__get__"))
  tk : PySem.W.takesIn K (.builtin "object.__class__") = some true
  mr : PySem.W.mroIn K C (.type "object") = some true
  is : (PySem.W.clsIn K C).isSome = true
/-- an object of the class at C -/
structure InX (h : Heap) (x : Addr) (C : Addr) : Prop where
  ex : ∃ ox, h.get? x = some ox ∧ ox.cls = .ref C
theorem InX.type {M : Model} {h : Heap} {x C : Addr} (I : InX h x C) : PySem.W.Looks M h (typeOf (.ref x)) (.ref C) := by
  obtain ⟨ox, a, c⟩ := I.ex
  exact c ▸ (PySem.W.Looks.ld a).andThen .now
open Builtin.ObjectAttr in
theorem find_exc {K : PySem.W.Frag} {M : Model} {h : Heap} {x C : Addr} (X : K.In h) (e : Exc K C) : PySem.W.Looks M h (find (.ref x) (.ref C) "__class__") (.bind (.builtin "getset_descriptor.__get__") (.builtin "object.__class__")) := by
  have L1 := PySem.W.looks_findIn (M := M) X e.cl
  have L2 : PySem.W.Looks M h (getOf (some (.builtin "object.__class__"))) (some (.builtin "getset_descriptor.__get__")) := PySem.W.looks_specialIn X e.gg
  have L3 := PySem.W.looks_takesIn (M := M) X e.tk
  refine L1.andThen (L2.andThen ?_)
  exact (show PySem.W.Looks M h (dataDescriptor? (some (.builtin "object.__class__")) (some (.builtin "getset_descriptor.__get__"))) (some (.builtin "getset_descriptor.__get__", .builtin "object.__class__")) from L3.andThen .now).andThen (PySem.W.Looks.tag .now)
open PySem.W Builtin Builtin.ObjectAttr Builtin.Getset_descriptor in
theorem class_getX {K : PySem.W.Frag} {prog : Program} {w : World} {A : Around} {s : Shared} {R : Result → Shared → Prop} {x C : Addr} {tp : Value} (X : K.In s.heap) (I : InX s.heap x C) (hm : mroIn K C (.type "object") = some true)
    (h : R (.ok (.ret (.ref C))) s) : codeAny (model prog w) A (.call (.builtin "getset_descriptor.__get__") ⟨[.builtin "object.__class__", .ref x, tp], []⟩) R s := by
  obtain ⟨hh, g, dr, t, os⟩ := s
  have L0 := I.type (M := model prog w)
  have L1 := looks_mroIn (M := model prog w) X hm
  refine codeAny_call_builtin KF.slot_gs.plain KF.entry_gs (KF.slot_gs.check _ _ _ _ _ _ _ _ KF.type_class (KF.args_gs _ _ _) ?_)
  unfold Builtin.«getset_descriptor.__get__» descrGet
  rw [dga_obj]
  refine wpAny_bind (wpAny_pure ?_)
  unfold descrGetter descrCheckInstance descrNameAndClass isInstance
  simp only [KF.owner_class]
  repeat lk
  refine ⟨Code.quiet_builtin _ (by decide +kernel), codeAny_builtin KF.entry_class ?_⟩
  unfold Builtin.«object.__class__» shownTypeOf
  repeat lk
  exact h
section
variable {prog : Program} {w : World} {A : Around} {E : Value → Shared → Prop} {h : Heap} {g : Array GenState} {d : Drawn} {t : Nat} {os : OsState} {a C : Addr} {K : PySem.W.Frag}
theorem exc_check {M : Model} {nameV : Value} {Q : Unit → Shared → Prop} (x : Exc K C) (X : K.In h) (I : InX h a C) (hq : Q () ⟨h, g, d, t, os⟩) : wpAny M A (checkBuiltinCall "BaseException.__getattribute__" ⟨[.ref a, nameV], []⟩) Q E ⟨h, g, d, t, os⟩ := by
  obtain ⟨tl, N', nm, qn, bs, hdct, sn, sub, ab, col, dd, k0, k1, k2, k3, k5, mN, hC, hN, hni, T⟩ := exc_obj X x.ex
  obtain ⟨ox, hx, hc⟩ := I.ex
  have hk : builtinKind "BaseException.__getattribute__" = some .slot := by decide +kernel
  have hsplit : splitId "BaseException.__getattribute__" = some ("BaseException", "__getattribute__") := by decide +kernel
  have hcB : (Value.ref C :: tl).contains (.type "BaseException") = true := by rw [List.contains_cons, show tl.contains (.type "BaseException") = true from (T.hasType (by decide +kernel : List.contains [Value.type "ValueError", .type "Exception", .type "BaseException", .type "object"] (.type "BaseException") = true))]; rfl
  have ha := F.args_bexc_ga (.ref a) nameV
  simp only [checkBuiltinCall, hk, hsplit]
  refine wpAny_bind ?_
  · unfold isInstance
    repeat (first | (with_reducible refine wpAny_loadPart_at hx ?_; rw [hc]) | (with_reducible refine wpAny_isSubtype_exc hC ?_; rw [hcB]) | wp_step)
    exact hq
theorem exc_entry {tk : Tok} {Q : Fin → Shared → Prop} (x : Exc K C) (X : K.In h) (I : InX h a C) (hq : Q (.done (.ret (.ref C))) ⟨h, g, d, t, os⟩) :
    wpAny (model prog w) A (Builtin.«object.__getattribute__» ⟨[.ref a, .str "__class__" tk], []⟩) Q E ⟨h, g, d, t, os⟩ := by
  have L0 := I.type (M := model prog w)
  have L3 := find_exc (M := model prog w) (x := a) X x
  unfold Builtin.«object.__getattribute__»
  repeat (any_goals (first | assumption | with_reducible refine L0.at ?_ | with_reducible refine L3.at ?_ | wp_step))
  exact class_getX X I x.mr (wpAny_pure hq)
theorem exc_call {tk : Tok} {R : Result → Shared → Prop} (x : Exc K C) (X : K.In h) (I : InX h a C) (hq : R (.ok (.ret (.ref C))) ⟨h, g, d, t, os⟩) :
    codeAny (model prog w) A (.call (.builtin "BaseException.__getattribute__") ⟨[.ref a, .str "__class__" tk], []⟩) R ⟨h, g, d, t, os⟩ :=
  codeAny_call_builtin F.attr_ValueError.ga.plain F.entry_bexc_ga (exc_check x X I (exc_entry x X I hq))
theorem exc_by {tk : Tok} {Q : Value → Shared → Prop} (x : Exc K C) (X : K.In h) (I : InX h a C) (hq : Q (.ref C) ⟨h, g, d, t, os⟩) :
    wpAny (model prog w) A (getAttrBy (.ref a) (.str "__class__" tk) false) Q E ⟨h, g, d, t, os⟩ := by
  have L0 := I.type (M := model prog w)
  have L1 := PySem.W.looks_findIn (M := model prog w) X x.ga
  have L2 := PySem.W.looks_findIn (M := model prog w) X x.gt
  have f3 := F.attr_ValueError.ga.bind (.ref a)
  have hx2 : (Value.builtin "BaseException.__getattribute__" == Value.builtin "object.__getattribute__") = false := by decide +kernel
  have hx1 : (onTheHeap (Value.ref C) && Value.builtin "BaseException.__getattribute__" == Value.builtin "object.__getattribute__") = false := by rw [hx2]; rfl
  repeat (any_goals (first | assumption | with_reducible refine L0.at ?_ | with_reducible refine L1.at ?_ | with_reducible refine L2.at ?_ | wp_step))
  refine exc_call x X I ?_
  repeat (any_goals (first | assumption | wp_step))
theorem exc_attr {Q : Option Value → Shared → Prop} (x : Exc K C) (X : K.In h) (I : InX h a C) (hq : Q (some (.ref C)) ⟨h, g, d, t + 1, os⟩) :
    wpAny (model prog w) A (getAttr? (.ref a) "__class__") Q E ⟨h, g, d, t, os⟩ := by
  unfold getAttr? getAttrBy?
  repeat (any_goals (first | assumption | with_reducible apply exc_by x X I | wp_step))
theorem kitx_exc (x : Exc K C) : PySem.W.KitX K (.ref a) (.ref C) (fun h => InX h a C) where
  ty := fun _ _ _ I => I.type
  it := fun _ _ X _ => by
    obtain ⟨cdD, hcD⟩ := Option.isSome_iff_exists.mp x.is
    unfold PySem.W.clsIn at hcD
    split at hcD
    · rename_i c' d' cd' sl' ho
      intro A' Q' E' s' k q
      unfold isType loadHead
      exact wpAny_bind (wpAny_loadPart (k _ _ (X _ _ ho)) (wpAny_pure q))
    · cases hcD
  ne := fun h tp dd its n sl X htp => by
    obtain ⟨cdD, hcD⟩ := Option.isSome_iff_exists.mp x.is
    refine Bool.eq_false_iff.mpr fun q => ?_
    have e : C = tp := Value.ref.inj (beq_iff_eq.mp q)
    subst e
    unfold PySem.W.clsIn at hcD
    split at hcD
    · rename_i c' d' cd' sl' ho
      have z := (X _ _ ho).symm.trans htp
      cases z
    · cases hcD
  ca := fun {_ _ _ _ _ s} X I k => by obtain ⟨hh, g, d, t, os⟩ := s; exact exc_attr x X I k
end
end L2

set_option Elab.async false
set_option linter.all false
set_option maxRecDepth 100000
set_option maxHeartbeats 4000000
namespace L2
open PySem PySem.Spec PyProof.Rows
/-- an exception of the class at C stands at x -/
def ExcAt (x C : Addr) : Heap → Prop := fun h => InX h x C
theorem ExcAt.stay {x C : Addr} {h1 h2 : Heap} (e : ExcAt x C h1) (k : ∀ o, h1.get? x = some o → h2.get? x = some o) : ExcAt x C h2 := by
  obtain ⟨ox, a, c⟩ := e.ex
  exact ⟨ox, k _ a, c⟩
section
variable {X : Cx} {pins : List (Addr × Obj)} {σ : St} {H : Hp} {s : Shared} {h' : Heap}
/-- a name of the frame has gone: of the slots nothing is known -/
theorem Inv.lost {t' : Nat} {m' : Str → Option Value} (I : Inv X pins σ H s) (hn' : h'.Ns X.env.locals m') (hs : Heap.SameBut X.env.locals s.heap h') : Inv X pins (σ.map fun _ => none) H { s with heap := h', toks := t' } := by
  have cne := I.cne
  obtain ⟨m, hn, hl⟩ := id I.loc
  obtain ⟨oL, _, _, hoL, _⟩ := id hn
  refine ⟨I.ok, I.os, I.bare, ⟨fun b o e n hb hx => ?_, fun b o e n hb hx => ?_, I.base.free, fun b o e hx => ?_, I.base.tups, I.base.frzs, I.base.tbls⟩, ⟨_, hn', fun j y v' e1 e2 e3 => ?_⟩, fun y c e => ?_, I.free, I.freeC, fun p hp => ?_, fun b ob e => ?_, by simpa using I.len⟩
  · exact (hs.2 b (Nat.ne_of_lt (Nat.lt_of_lt_of_le (Heap.lt_size e) I.ok.above))).trans (I.base.keep b o e n hb hx)
  · obtain ⟨sl, e1⟩ := I.base.slot b o e n hb hx
    exact ⟨sl, (hs.2 b (Nat.ne_of_lt (Nat.lt_of_lt_of_le (Heap.lt_size e) I.ok.above))).trans e1⟩
  · obtain ⟨o', e1⟩ := I.base.there b o e hx
    exact ⟨o', (hs.2 b (Nat.ne_of_lt (Nat.lt_of_lt_of_le (Heap.lt_size e) I.ok.above))).trans e1⟩
  · rw [List.getElem?_map] at e2
    cases z : σ[j]? <;> rw [z] at e2 <;> cases e2
  · obtain ⟨w', z⟩ := I.cell y c e
    exact ⟨w', z.sameBut hs (cne y c e)⟩
  · obtain ⟨e, n, ne, nf, d⟩ := I.pin p hp
    exact ⟨(hs.2 p.1 ne).trans e, n, ne, nf, d⟩
  · refine (I.hok b ob e).stay (fun c w' hc q => (hs.2 c ?_).trans q) (fun _ q => q) fun _ _ q => q
    rintro rfl
    have hf := I.free
    rcases hc with z | hc
    · rw [z, e] at hf; cases hf
    · rw [hc] at hf; cases hf
/-- a thing that stands there is told of from now on -/
theorem Inv.track {x : Addr} {o : HO} (I : Inv X pins σ H s) (hn : H x = none) (h0 : X.s₀.heap.get? x = none) (hL : x ≠ X.env.locals) (hc : ∀ y c, X.env.cells.lookup y = some c → c ≠ x) (hp : ∀ p ∈ X.pn ++ pins, p.1 ≠ x)
    (new : ObjOk X.prog X.w (upd H x o) s.heap x o) : Inv X pins σ (upd H x o) s := by
  refine ⟨I.ok, I.os, I.bare, ⟨I.base.keep, I.base.slot, fun b ob e n hx => ?_, I.base.there, fun b xs e => ?_, fun b ob u e => ?_, fun b ps e => ?_⟩, I.loc, I.cell, ?_, fun y c e => ?_, fun p hp' => ?_, fun b u e => ?_, I.len⟩
  · rw [upd_ne (fun z => by rw [z, h0] at e; cases e)]
    exact I.base.free b ob e n hx
  · have e := I.base.tups b xs e
    rw [upd_ne (ne_of_none e hn)]
    exact e
  · have e := I.base.frzs b ob u e
    rw [upd_ne (ne_of_none e hn)]
    exact e
  · obtain ⟨more, e⟩ := I.base.tbls b ps e
    exact ⟨more, by rw [upd_ne (ne_of_none e hn)]; exact e⟩
  · rw [upd_ne hL.symm]
    exact I.free
  · rw [upd_ne (hc y c e)]
    exact I.freeC y c e
  · obtain ⟨e, n, r⟩ := I.pin p hp'
    exact ⟨e, by rw [upd_ne (hp p hp')]; exact n, r⟩
  · by_cases hb : b = x
    · subst hb
      rw [upd_same] at e
      cases e
      exact new
    · rw [upd_ne hb] at e
      exact (I.hok b u e).stay (fun c v _ q => q) (fun c q => by rw [upd_ne (ne_of_none q hn)]; exact q) fun c xs q => by rw [upd_ne (ne_of_none q hn)]; exact q
end
def onlyRt (D : Ends) : Ends := { nx := fun _ _ => False, ct := fun _ _ => False, bk := fun _ _ => False, rt := D.rt }
theorem ps_tryAs {X : Cx} {c n : Str} {C : Addr} {i : Nat} {body : List Stmt} {b₀ : Stmt} {suite : List Stmt} {np hpos pos : Pos} {tb : RX → TS} {th : TS} (L : Lvl X) (hg : Gl X c) (hm : X.mg c = some (.ref C)) (hN : X.N.Nodup) (hi : X.N[i]? = some n) (hl : X.env.scope.names.lookup n = some .local)
    (hb : ∀ pins R, PSs (X.tryC pins R) body (tb R)) (hh : ∀ x, PSs (X.hand x) (b₀ :: suite) th) (hdb : (c == ("__debug__" : Str)) = false := by decide) :
    PS X (.Try body [.ExceptHandler (some (.Name c np)) (some n) (b₀ :: suite) hpos] [] [] pos)
      (fun D σ H => tb (fun cls σ' H' => ∃ C', cls = .ref C' ∧ PySem.W.exmOne X.K cls (.ref C) = some true ∧ ∀ x, H' x = none → th (onlyRt D) (σ'.set i (some (.ref x))) (upd H' x (.ext (ExcAt x C')))) D σ H) := by
  intro pins s σ H D I h
  refine wpAny_Try_except (wpAny_mono (hb pins _ [] s σ H D (I.tryC _) h) (fun f s1 h1 => ?_) fun e s1 h1 => ?_)
  · have h2 := SP.untryC h1
    cases f with
    | next => exact wpAny_execs_nil h2
    | brk => exact h2
    | cont => exact h2
    | ret u => exact h2
  · obtain ⟨x, cls, σ', H', rfl, ⟨sC, Hc, B, a0, IC, os, bare, un, hok, fl, inB⟩, C', hcls, hx, q⟩ := h1
    subst hcls
    have hfr := I.ok.frames
    rw [L.stk] at hfr
    have fl' := fl
    rw [L.stk] at fl'
    refine wpAny_looks_onW hfr L.frame fl' fun h4 held4 up4 => ?_
    refine wpAny_landsW held4 fun h5 fl5 up5 => ?_
    have up45 := up4.trans up5
    have I5 : Inv X pins σ' H' { s1 with heap := h5 } := fly_up (t' := s1.toks) IC os bare un hok fl.1 fl5.1 up45 inB
    obtain ⟨ob, hob, hobc⟩ := fl5.there
    have lt : PySem.W.Looks (model X.prog X.w) h5 (typeOf (.ref x)) (.ref C') := by
      rw [← hobc]
      exact (PySem.W.Looks.ld hob).andThen .now
    refine wpAny_handleBy_cons (codeAny_handlers_test (ld_glob (X := X.hand x) (I5.hand x) hg hm ?_ hdb)) (by intro z; cases z)
    refine (PySem.W.exm_one (K := X.K) I5.kIn lt hx).here (codeAny_handlers_suite_as ?_)
    refine lands_againW fl5 fun h6 fl6 up6 => ?_
    have I6 : Inv X pins σ' H' { s1 with heap := h6 } := fly_up (t' := s1.toks) IC os bare un hok fl.1 fl6.1 (up45.trans up6) inB
    have hBx : B.get? x = none := fl6.2.1
    obtain ⟨oe, vs, hoe, hoec, hoed, hoe0⟩ := fl6.first
    have nfr : x ∉ frs X.stack := fun z => by
      obtain ⟨_, o', e', hd⟩ := I6.stack.mem z
      rw [hoe] at e'
      cases e'
      exact hd vs hoed
    obtain ⟨hxn, hxs⟩ : H' x = none ∧ sC.heap.get? x = none := (inB x hBx).elim (fun z => absurd z nfr) id
    have h0 : X.s₀.heap.get? x = none := by
      cases z : X.s₀.heap.get? x with
      | none => rfl
      | some o =>
        obtain ⟨o', e'⟩ := IC.base.there x o z (by rw [L.ex]; simp)
        rw [hxs] at e'
        cases e'
    have hxL : x ≠ X.env.locals := fun z => by
      obtain ⟨m, ⟨o, _, _, ho, _⟩, _⟩ := IC.loc
      rw [← z, hxs] at ho
      cases ho
    have I7 : Inv X pins σ' (upd H' x (.ext (ExcAt x C'))) { s1 with heap := h6 } := by
      refine I6.track hxn h0 hxL (fun y c' e z => ?_) (fun p hp z => ?_) ⟨⟨⟨_, hoe, hoec⟩⟩, ⟨_, hoe⟩, fun h1 h2 e k => ExcAt.stay e k⟩
      · obtain ⟨v, o, ho, hd⟩ := IC.cell y c' e
        rw [z, hxs] at ho
        cases ho
      · have e := (IC.pin p hp).1
        rw [z, hxs] at e
        cases e
    refine store_ok (X := X.hand x) (v := .ref x) (I7.hand x) hN hi (Or.inl hl) (show RelV (.ref x) (Value.ref x) from rfl) (fun s7 I8 => ?_) (Or.inr hl)
    refine wpAny_mono (hh x pins s7 _ _ _ I8 (q x hxn)) (fun f s8 h8 => ?_) (fun _ _ z => z.elim)
    cases f with
    | next => obtain ⟨_, _, _, z⟩ := h8; exact z.elim
    | brk => obtain ⟨_, _, _, z⟩ := h8; exact z.elim
    | cont => obtain ⟨_, _, _, z⟩ := h8; exact z.elim
    | ret u =>
      obtain ⟨v, σ9, H9, I9, rv, q9⟩ := h8
      have I9 := I9.unhand I.ok.hd
      obtain ⟨m, hn, _⟩ := I9.loc
      exact wpAny_nameGoes hl hn (by rw [I.ok.kind]; rfl) fun h' m' hn' sb => ⟨v, _, H9, I9.lost hn' sb, rv, q9⟩
structure RoomH (k : Nat) (A : Around) : Prop where
  dp : A.depth + 3 * k + 5 < recursionLimit
  un : A.units + 16 * k + 200 < cLine
theorem RoomH.of {k : Nat} {A : Around} (r : Room k A) : RoomH k A := ⟨r.dp, r.un⟩
/-- .. and what it promises -/
structure FnH (P : Program) (w : World) (K : PySem.W.Frag) (mg : Str → Option Value) (base : Heap) (k : Nat) (f : Addr) (fd : FuncData) (ps : List Str) (sp : Sp) : Prop where
  len : ∀ vs H Q E, sp vs H Q E → vs.length = ps.length
  run : ∀ (A : Around) (outer : List Env) (s : Shared) (H : Hp) (args : Args) (us : List Value) (vs : List V) (Q : VK) (E : XK), RoomH k A → Env0 P w K mg base A outer s H → BindsTo s fd args (ps.zip us) → Vals vs us → sp vs H Q E →
    codeAny (model P w) A (.call (.ref f) args) (CR CX0 outer P w H s Q E) s
def cxH (P : Program) (w : World) (K : PySem.W.Frag) (mg : Str → Option Value) (base : Heap) (N : List Str) (qual : Str) (scope : Scope) (f : Addr) (cd : Value) (A : Around) (outer : List Env) (s : Shared) (H : Hp) (E : XK) : Cx :=
  { (cxOf CX0 P w K mg base N qual scope f cd A outer s H E).nox with calm := false }
theorem inv_startH {P : Program} {w : World} {K : PySem.W.Frag} {mg : Str → Option Value} {base : Heap} {N ps : List Str} {qual : Str} {scope : Scope} {f : Addr} {cd : Value} {A : Around} {outer : List Env} {s s1 : Shared} {H : Hp} {E : XK} {us : List Value} {vs : List V}
    (S : FnScope N ps scope) (e0 : Env0 P w K mg base A outer s H) (hl : vs.length = ps.length) (r : Vals vs us)
    (x : InCallC s s.heap.objs.size (bindL (envOfC qual scope s.heap.objs.size f cd).kindOf (ps.zip us) fun _ => none) (cellsFrom (s.heap.objs.size + 1) scope.names []) (bindC (envOfC qual scope s.heap.objs.size f cd).kindOf (ps.zip us) fun _ => none) s1) :
    Inv (cxH P w K mg base N qual scope f cd A outer s H E) [] (start N vs) H s1 := by
  have e1 : Env0 P w K mg base { A with handled := none } outer s H := ⟨e0.frames, e0.mod, e0.bs, e0.bsz, e0.funs, e0.frf, e0.hok, e0.bare⟩
  have I := inv_start (CX := CX0) (E := E) S rfl e1 hl r x
  exact ⟨⟨I.ok.mod, I.ok.kind, I.ok.glob, I.ok.blt, I.ok.above, I.ok.inj, I.ok.has, I.ok.cab, fun z => (by cases z), Around.frames_deeper e0.frames, I.ok.stk, I.ok.exf, I.ok.bs, I.ok.bsz, I.ok.noex, I.ok.exfs, I.ok.funs, I.ok.frf⟩, I.os, I.bare, I.base, I.loc, I.cell, I.free, I.freeC, I.pin, I.hok, I.len⟩
theorem Fun.okH {P : Program} {w : World} {K : PySem.W.Frag} {mg : Str → Option Value} {base : Heap} {x qual : Str} {st : Stmt} {f : Addr} {fd : FuncData} {N ps : List Str} {k : Nat} {sp : Sp} (F : Fun K x qual st f fd) (S : FnScope N ps (defScope st)) (len : ∀ vs H Q E, sp vs H Q E → vs.length = ps.length)
    (hbody : ∀ (cdv : Value) (A : Around) (outer : List Env) (s : Shared) (H : Hp) (vs : List V) (Q : VK) (E : XK), RoomH k (A.deeper (envOfC qual (defScope st) s.heap.objs.size f cdv)) → sp vs H Q E →
      ∃ t, PSs (cxH P w K mg base N qual (defScope st) f cdv A outer s H E) (defBody st) t ∧ t { nx := fun _ H' => Q .non H', rt := Q } (start N vs) H) : FnH P w K mg base (k + 1) f fd ps sp := by
  obtain ⟨oc, od, kV, doc, pm, an, cdv, ct, osl, rfl, lk, hcd⟩ := F.ex
  refine ⟨len, fun A outer s H args us vs Q E hr e0 hb r hsp => ?_⟩
  have hl := len _ _ _ _ hsp
  have KX : K.In s.heap := e0.mod.kin.keeps fun b o e => (e0.bs b o e).1
  have lim : s.heap.NoLimit := e0.mod.nolimit.keeps fun b o e => (e0.bs b o e).1
  have hkind : ∀ y ∈ ps.zip us, (defScope st).names.lookup y.1 = some .local ∨ ((defScope st).names.lookup y.1 = some .cell ∧ ((cellsFrom (s.heap.objs.size + 1) (defScope st).names []).lookup y.1).isSome = true) := fun ⟨n, v⟩ hy => by
    rcases S.par n (List.of_mem_zip hy).1 with q | q
    · exact .inl q
    · exact .inr ⟨q, PySem.W.cellsFrom_some _ _ _ (.inl q)⟩
  have hdep : A.depth < recursionLimit := by have := hr.dp; omega
  refine codeAny_call_function hdep (KX _ _ lk) rfl S.co S.gen rfl (PySem.W.codeRec_of KX hcd) (hb _ _ _ _ ?_)
  refine wpAny_newFunctionEnv_cells S.kind hkind fun env he s1 x => ?_
  subst he
  refine ⟨lim.keeps x.toInCall.keep, codeAny_func ?_⟩
  have hr' : RoomH k (A.deeper (envOfC qual (defScope st) s.heap.objs.size f cdv)) := ⟨by have := hr.dp; show A.depth + 1 + 3 * k + 5 < _; omega, by have := hr.un; show A.units + 3 + 16 * k + 200 < _; omega⟩
  obtain ⟨t, ht, hq⟩ := hbody cdv A outer s H vs Q E hr' hsp
  have I : Inv (cxH P w K mg base N qual (defScope st) f cdv A outer s H E) [] (start N vs) H s1 := inv_startH S e0 hl r x
  refine wpAny_mono (ht [] s1 (start N vs) H _ I hq) (fun fl s' hs => ?_) fun e s' hs => hs.elim
  have fin : ∀ {σ' : St} {H' : Hp} {v : V} {u : Value}, Inv (cxH P w K mg base N qual (defScope st) f cdv A outer s H E) [] σ' H' s' → RelV v u → Q v H' → CE outer P w H s Q u s' :=
    fun {σ' H' v u} J rv q => ⟨v, H', J.os, J.bare, J.base, J.hok, rv, q⟩
  cases fl with
  | ret u =>
    obtain ⟨v, σ', H', J, rv, q⟩ := hs
    exact fin J rv q
  | next =>
    obtain ⟨σ', H', J, q⟩ := hs
    exact fin (v := V.non) (u := Value.none) J rfl q
  | brk =>
    obtain ⟨_, _, _, q⟩ := hs
    exact False.elim q
  | cont =>
    obtain ⟨_, _, _, q⟩ := hs
    exact False.elim q
def HasH (P : Program) (w : World) (K : PySem.W.Frag) (mg : Str → Option Value) (base : Heap) (x : Str) (k : Nat) (ps : List Str) (sp : Sp) : Prop :=
  ∃ (f : Addr) (fd : FuncData), FnH P w K mg base k f fd ps sp ∧ Binds K fd ps [] ∧ mg x = some (.ref f) ∧ PySem.W.keepIn K (.ref f) = true
section
variable {X : Cx} {j k : Nat} {ps : List Str} {sp : Sp} {x : Str} {p pos : Pos} {e : Expr} {es : List Expr} {t : TA} {a : Addr}
theorem pe_fnH (C : HasH X.prog X.w X.K X.mg X.base x j ps sp) (hr : Room k X.A) (hg : Gl X x) (ha : PA (X.hand a) (e :: es) t) (hk : j ≤ k := by decide)
    (hdb : (x == ("__debug__" : Str)) = false := by decide) (he : starEach (e :: es) X.env = (false, eval e X.env) :: starEach es X.env := by rfl) (hpl : (backTo pos (starEach es X.env)).any (·.1) = false := by rfl) :
    PE (X.hand a) (.Call (.Name x p) (e :: es) [] pos) (tCall sp [] E0 t) := by
  obtain ⟨f, fd, F, b, m, kp⟩ := C
  intro pins s σ H Q I h
  refine wpAny_Call_Name_kw (ld_glob (X := X.hand a) I hg m ?_ hdb)
  refine PySem.W.callWith_K (h₀ := X.base) I.ok.mod.kin kp (thn (ha pos pins s σ H _ I h) fun us s1 ⟨vs, H1, I1, r, q⟩ => ⟨I1.kIn, ?_⟩) he hpl
  have q : sp (vs ++ []) H1 Q E0 := q
  rw [List.append_nil] at q
  have hl : us.length = ps.length := by rw [← r.length]; exact F.len _ _ _ _ q
  have hb' := b s1 us I1.kIn (by rw [List.append_nil]; exact hl)
  rw [List.append_nil] at hb'
  have hrH : RoomH j (X.hand a).A := ⟨by have := hr.dp; show X.A.depth + 3 * j + 5 < _; omega, by have := hr.un; show X.A.units + 16 * j + 200 < _; omega⟩
  refine wpAny_call (codeAny_mono (F.run (X.hand a).A (X.hand a).stack s1 H1 ⟨us, []⟩ us vs Q E0 hrH I1.env0 hb' r q) fun r s' hq => ?_)
  cases r with
  | error e => exact False.elim hq
  | ok fl =>
    cases fl with
    | ret u => exact I1.after hq
    | next => exact False.elim hq
    | brk => exact False.elim hq
    | cont => exact False.elim hq
/-- a call through a parameter, in the body of a try -/
def tCallV (X : Cx) (k i : Nat) (R : RX) (t : TA) : TE := fun σ H Q => ∃ (f : Addr) (fd : FuncData) (ps : List Str) (sp : Sp), σ[i]? = some (some (.ref f)) ∧ FnOk X.prog X.w X.K X.mg X.base (CXE X.prog X.w) k f fd ps sp ∧ Binds X.K fd ps [] ∧ PySem.W.keepIn X.K (.ref f) = true ∧
  t σ H fun vs H1 => sp vs H1 Q fun cls _ H' => R cls σ H'
theorem pe_callV {pins : List (Addr × Obj)} {R : RX} {i : Nat} (hi : X.N[i]? = some x) (hk : X.env.scope.names.lookup x = some .local) (hr : Room k X.A) (ha : PA (X.tryC pins R) (e :: es) t)
    (hdb : (x == ("__debug__" : Str)) = false := by decide) (he : starEach (e :: es) X.env = (false, eval e X.env) :: starEach es X.env := by rfl) (hpl : (backTo pos (starEach es X.env)).any (·.1) = false := by rfl) :
    PE (X.tryC pins R) (.Call (.Name x p) (e :: es) [] pos) (tCallV X k i R t) := by
  intro pins' s σ H Q I h
  obtain ⟨f, fd, ps, sp, hf, F, b, kp, h⟩ := h
  obtain ⟨m, hn, hl⟩ := I.loc
  obtain ⟨u, r, l⟩ := hl i x (.ref f) hi hf (Or.inl hk)
  obtain rfl : u = Value.ref f := r
  rcases l with ⟨hk', hm⟩ | ⟨hk', _⟩
  · refine wpAny_Call_Name_kw (wpAny_Name (wpAny_loadName_local I.ok.kind hk' hn hm ?_) hdb)
    refine PySem.W.callWith_K (h₀ := X.base) I.ok.mod.kin kp (thn (ha pos pins' s σ H _ I h) fun us s1 ⟨vs, H1, I1, r, q⟩ => ⟨I1.kIn, ?_⟩) he hpl
    exact run_fnX (X := X.tryC pins R) F hr b thr_try I1 r q
  · have hk2 : X.env.scope.names.lookup x = some .cell ∨ X.env.scope.names.lookup x = some .free := hk'
    rcases hk2 with z | z <;> rw [hk] at z <;> cases z
/-- two lists of the same truths -/
def rEqB (K : PySem.W.Frag) : R2 := fun x y H Q => ∃ (a b : Addr) (bs : List Bool), x = .ref a ∧ y = .ref b ∧ SqL K H a (bs.map V.bl) ∧ SqL K H b (bs.map V.bl) ∧ Q (.bl true) H
theorem op_eqB (hu : X.A.units < cLine) : OpR X (compareOp .Eq) (rEqB X.K) := by
  intro pins s σ H x y v u Q I rx ry h
  obtain ⟨a, b, bs, rfl, rfl, ha, hb, q⟩ := h
  cases rx
  cases ry
  obtain ⟨its, r1, p1, _⟩ := I.list ha
  obtain ⟨jts, r2, p2, _⟩ := I.list hb
  have fx : (bs.map V.bl).all flatV = true := List.all_eq_true.mpr fun v hv => by
    obtain ⟨c, _, rfl⟩ := List.mem_map.mp hv
    rfl
  refine SeqAt.eq_listAt (e := fun j => eqV ((bs.map V.bl).getD j .non) ((bs.map V.bl).getD j .non)) p1.isList p2.isList (by rw [List.size_toArray, List.size_toArray, ← r1.length, ← r2.length]) hu (items_eqAt r1 r2 fx fx) ?_
  have hall : ((List.range its.toArray.size).all fun j => eqV ((bs.map V.bl).getD j .non) ((bs.map V.bl).getD j .non)) = true := List.all_eq_true.mpr fun j hj => by
    rw [List.mem_range, List.size_toArray, ← r1.length, List.length_map] at hj
    rw [List.getD_eq_getElem?_getD, List.getElem?_map, List.getElem?_eq_getElem hj]
    show eqV (V.bl bs[j]) (V.bl bs[j]) = true
    cases bs[j] <;> rfl
  rw [hall]
  exact ⟨.bl true, H, I, rfl, q⟩
/-- isinstance of an own exception -/
theorem call_isinstX : CallR X (.builtin "isinstance") (fun xs H Q => ∃ (x C : Addr) (c : V) (cv : Value) (b : Bool), xs = [.ref x, c] ∧ ((∃ D, c = .ref D ∧ cv = .ref D) ∨ (∃ n, c = .ty n ∧ cv = .type n)) ∧ H x = some (.ext (ExcAt x C)) ∧ Exc X.K C ∧ PySem.W.kitOne X.K (.ref C) cv = some b ∧ Q (.bl b) H) := by
  intro pins s σ H xs us Q I r h
  obtain ⟨x, C, c, cv, b, rfl, hc, hx, ex, hk, q⟩ := h
  cases r with
  | cons r1 rr =>
    cases rr with
    | cons r2 rr =>
      cases rr
      cases r1
      have ho : ExcAt x C s.heap := (show ObjOk X.prog X.w H s.heap x (.ext (ExcAt x C)) from I.hok x _ hx).1
      rcases hc with ⟨D, rfl, rfl⟩ | ⟨n, rfl, rfl⟩
      · cases r2
        exact PySem.W.kia_one (kitx_exc ex) I.kIn ho hk (fun z => nomatch z) fun tk => ⟨.bl b, H, I.tok _, rfl, q⟩
      · cases r2
        exact PySem.W.kia_one (kitx_exc ex) I.kIn ho hk (fun z => nomatch z) fun tk => ⟨.bl b, H, I.tok _, rfl, q⟩
end
end L2

set_option Elab.async false
set_option linter.all false
set_option maxRecDepth 100000
set_option maxHeartbeats 4000000
namespace L2
open PySem PySem.Spec PyProof.Rows
section
variable {te : TE} {ρ : St} {H1 : Hp} {Q : VK} {p : Addr}
theorem comp_list {K : PySem.W.Frag} {a : Addr} {xs : List V} (Pv : Nat → List V → Hp → Prop) (h0 : Pv 0 [] (upd H1 p (.lst []))) (hp : ∀ i ys H, i ≤ xs.length → Pv i ys H → H p = some (.lst ys) ∧ ys.length < sizeLine ∧ SqL K H a xs)
    (hs : ∀ i x ys H, xs[i]? = some x → Pv i ys H → te (some x :: ρ) H fun y H4 => H4 p = some (.lst ys) ∧ Pv (i + 1) (ys ++ [y]) (upd H4 p (.lst (ys ++ [y])))) (hd : ∀ ys H, Pv xs.length ys H → Q (.ref p) H) :
    CompP (Itl K a) te ρ p Q H1 := by
  refine ⟨fun i m ys H => m = xs.length - i ∧ i ≤ xs.length ∧ Pv i ys H, ⟨xs.length, by simp, Nat.zero_le _, h0⟩, ?_⟩
  rintro i m ys H ⟨rfl, hi, q⟩
  obtain ⟨h1, h2, h3⟩ := hp i ys H hi q
  refine ⟨h1, ?_⟩
  by_cases hlt : i < xs.length
  · refine .inr ⟨⟨xs, xs[i], h3, by simp [hlt]⟩, h2, Pv (i + 1), fun zs H' q' => ⟨xs.length - (i + 1), by omega, rfl, hlt, q'⟩, fun x H3 y => ?_⟩
    obtain ⟨e, y⟩ := y
    subst e
    exact hs i x ys _ (y xs h3) q
  · have e : i = xs.length := by omega
    subst e
    exact .inl ⟨⟨xs, h3, Nat.le_refl _⟩, hd ys H q⟩
theorem comp_listS {K : PySem.W.Frag} {a : Addr} {xs : List V} (Pv : Nat → V → Prop) (hp : H1 p = none) (ha : H1 a = some (.lst xs)) (hn : xs.length ≤ 100000)
    (hs : ∀ i x H R, xs[i]? = some x → Same H1 H → (∀ y H4, Same H H4 → Pv i y → R y H4) → te (some x :: ρ) H R)
    (hd : ∀ ys H, ys.length = xs.length → (∀ i y, ys[i]? = some y → Pv i y) → Same H1 H → H p = some (.lst ys) → Q (.ref p) H) : CompP (Itl K a) te ρ p Q H1 := by
  refine comp_list (xs := xs) (fun i ys H => Same H1 H ∧ H p = some (.lst ys) ∧ ys.length = i ∧ ∀ j y, ys[j]? = some y → Pv j y) ⟨same_of hp rfl, upd_same, rfl, fun j y e => by simp at e⟩ ?_ ?_ ?_
  · rintro i ys H hi ⟨g, e, l, b⟩
    exact ⟨e, by rw [l, sizeLine_eq]; omega, SqL.of (g _ _ ha)⟩
  · rintro i x ys H hi ⟨g, e, l, b⟩
    subst l
    exact hs _ x H _ hi g fun y H4 g4 py => ⟨g4 _ _ e, grow hp g g4, upd_same, by simp, snoc_all b py⟩
  · rintro ys H ⟨g, e, l, b⟩
    exact hd ys H l b g e
end
/-- in a comprehension's block: the readings name the outer part -/
theorem op_eqBC {X : Cx} {sc : Scope} {cl : List (Str × Addr)} {CC : Addr} {N : List Str} {fp : List Addr} {ss : Shared} {HH : Hp} (hu : X.A.units < cLine) : OpR (compCx X sc cl CC N fp ss HH) (compareOp .Eq) (rEqB X.K) := op_eqB (X := compCx X sc cl CC N fp ss HH) hu
theorem ix_listC {X : Cx} {sc : Scope} {cl : List (Str × Addr)} {CC : Addr} {N : List Str} {fp : List Addr} {ss : Shared} {HH : Hp} : IxR (compCx X sc cl CC N fp ss HH) (rIxL X.K) := ix_list (X := compCx X sc cl CC N fp ss HH)
end L2
namespace Fc
open PySem PySem.Spec PyProof.Rows L2
theorem Df.hasH {P : Program} {w : World} {K : PySem.W.Frag} {mg : PySem.Str → Option Value} {base : Heap} {x : PySem.Str} {st : Stmt} {k : Nat} {ps : List PySem.Str} {sp : Sp} (D : Df K mg x st ps)
    (h : ∀ f fd, Fun K x x st f fd → FnH P w K mg base k f fd ps sp) : HasH P w K mg base x k ps sp :=
  let ⟨f, fd, F, b, m⟩ := D
  ⟨f, fd, h f fd F, b, m, F.kp⟩
/-- a value of any kind that is handed in -/
def Th (H : Hp) (x : V) : Prop := x = .non ∨ (∃ i : Int, x = .int i) ∨ (∃ b : Bool, x = .bl b) ∨ (∃ y : PySem.Str, x = .str y ∧ (cs y).length ≤ 1000) ∨ (∃ (p : Addr) (xs : List V), x = .ref p ∧ (H p = some (.lst xs) ∨ H p = some (.tup xs)))
theorem Th.same {H H' : Hp} {x : V} (t : Th H x) (g : Same H H') : Th H' x := by
  rcases t with h | h | h | h | ⟨p, xs, e, h⟩
  · exact .inl h
  · exact .inr (.inl h)
  · exact .inr (.inr (.inl h))
  · exact .inr (.inr (.inr (.inl h)))
  · exact .inr (.inr (.inr (.inr ⟨p, xs, e, h.imp (g _ _) (g _ _)⟩)))
theorem Th.int {H : Hp} (i : Int) : Th H (.int i) := .inr (.inl ⟨i, rfl⟩)
theorem Th.bl {H : Hp} (b : Bool) : Th H (.bl b) := .inr (.inr (.inl ⟨b, rfl⟩))
theorem Th.str {H : Hp} {y : PySem.Str} (h : (cs y).length ≤ 1000) : Th H (.str y) := .inr (.inr (.inr (.inl ⟨y, rfl, h⟩)))
theorem Th.non {H : Hp} : Th H .non := .inl rfl
theorem Th.lst {H : Hp} {p : Addr} {xs : List V} (h : H p = some (.lst xs)) : Th H (.ref p) := .inr (.inr (.inr (.inr ⟨p, xs, rfl, .inl h⟩)))
theorem Th.tup {H : Hp} {p : Addr} {xs : List V} (h : H p = some (.tup xs)) : Th H (.ref p) := .inr (.inr (.inr (.inr ⟨p, xs, rfl, .inr h⟩)))
def isLet : V → Bool
  | .str y => lrB (cs y)
  | _ => false
def isWh : V → Bool
  | .int _ => true
  | _ => false
def isTn : V → Bool
  | .str y => lrB (cs y) && decide (0 < (cs y).length)
  | _ => false
def isCn : V → Bool
  | .int i => decide (1 ≤ i)
  | _ => false
theorem isLet_str {x : V} (h : isLet x = true) : ∃ y, x = .str y ∧ Lr (cs y) := by
  cases x with
  | str y => exact ⟨y, rfl, lrB_iff.mp h⟩
  | _ => cases h
theorem isWh_int {x : V} (h : isWh x = true) : ∃ i, x = .int i := by
  cases x with
  | int i => exact ⟨i, rfl⟩
  | _ => cases h
def sp_lettersV : Sp := fun vs H Q _ => ∃ x, vs = [x] ∧ Th H x ∧ Q (.bl (isLet x)) H
def sp_wholeV : Sp := fun vs H Q _ => ∃ x, vs = [x] ∧ Th H x ∧ Q (.bl (isWh x)) H
def sp_turnsV : Sp := fun vs H Q _ => ∃ x, vs = [x] ∧ Th H x ∧ Q (.bl (isTn x)) H
def sp_countV : Sp := fun vs H Q _ => ∃ x, vs = [x] ∧ Th H x ∧ Q (.bl (isCn x)) H
def sp_needV (p : V → Bool) (b : Addr) : Sp := fun vs H Q E => ∃ x, vs = [x] ∧ Th H x ∧ (p x = true → Q .non H) ∧ (p x = false → E (.ref b) none H)
def sp_stepsV (b : Addr) : Sp := fun vs H Q E => ∃ x, vs = [x] ∧ Th H x ∧ (∀ y, x = .str y → Lr (cs y) → Q (.int (2 ^ (cs y).length : Nat)) H) ∧ (isLet x = false → E (.ref b) none H)
def badCr (L : Nat) (x : V) : Prop := isWh x = false ∨ ∃ i : Int, x = .int i ∧ (i < 1 ∨ ((2 ^ L : Nat) : Int) ≤ i)
def badLf (L : Nat) (x : V) : Prop := isWh x = false ∨ ∃ i : Int, x = .int i ∧ (i < 0 ∨ ((2 ^ L : Nat) : Int) ≤ i)
def badSt (L : Nat) (x : V) : Prop := isWh x = false ∨ ∃ i : Int, x = .int i ∧ (i < 0 ∨ ((2 ^ L : Nat) : Int) < i)
def badRw (L : Nat) (x z : V) : Prop := isWh x = false ∨ isWh z = false ∨ ∃ i j : Int, x = .int i ∧ z = .int j ∧ (i < 1 ∨ j < 0 ∨ ((2 ^ L : Nat) : Int) < i + j)
/-- refused: no folds, or folds and no number of theirs -/
def sp_door (b c : Addr) (bad : Nat → V → Prop) : Sp := fun vs H Q E => ∃ f x, vs = [f, x] ∧ Th H f ∧ Th H x ∧ ((isLet f = false ∧ E (.ref b) none H) ∨ (∃ y, f = .str y ∧ Lr (cs y) ∧ bad (cs y).length x ∧ E (.ref c) none H))
def sp_door3 (b c : Addr) : Sp := fun vs H Q E => ∃ f x z, vs = [f, x, z] ∧ Th H f ∧ Th H x ∧ Th H z ∧ ((isLet f = false ∧ E (.ref b) none H) ∨ (∃ y, f = .str y ∧ Lr (cs y) ∧ badRw (cs y).length x z ∧ E (.ref c) none H))
def sp_door1 (b : Addr) : Sp := fun vs H Q E => ∃ f, vs = [f] ∧ Th H f ∧ isLet f = false ∧ E (.ref b) none H
def sp_toldV (t c : Addr) : Sp := fun vs H Q E => ∃ f x, vs = [f, x] ∧ Th H f ∧ Th H x ∧ ((isTn f = false ∧ E (.ref t) none H) ∨ (isTn f = true ∧ isCn x = false ∧ E (.ref c) none H))
def sp_withF (b : Addr) : Sp := fun vs H Q E => ∃ (d : Int) (f : V), vs = [.int d, f] ∧ Th H f ∧ isLet f = false ∧ E (.ref b) none H
def sp_row7 (c : Addr) : Sp := fun vs H Q E => ∃ (y : PySem.Str) (p : Addr) (x z : V), vs = [.str y, .ref p] ∧ Fo y ∧ H p = some (.tup [x, z]) ∧ Th H x ∧ Th H z ∧ badRw (cs y).length x z ∧ E (.ref c) none H
/-- of which classes an error is -/
structure Kinds (K : PySem.W.Frag) (dF dC dS dT C : Addr) (b0 b1 b2 b3 : Bool) : Prop where
  ex : Exc K C
  k0 : PySem.W.kitOne K (.ref C) (.ref dF) = some b0
  k1 : PySem.W.kitOne K (.ref C) (.ref dC) = some b1
  k2 : PySem.W.kitOne K (.ref C) (.ref dS) = some b2
  k3 : PySem.W.kitOne K (.ref C) (.ref dT) = some b3
  k4 : PySem.W.kitOne K (.ref C) (.type "ValueError") = some true
def five (b0 b1 b2 b3 : Bool) : List V := [.bl b0, .bl b1, .bl b2, .bl b3, .bl true]
def sp_kinds (K : PySem.W.Frag) (dF dC dS dT : Addr) : Sp := fun vs H Q _ => ∃ (x C : Addr) (b0 b1 b2 b3 : Bool), vs = [.ref x] ∧ H x = some (.ext (ExcAt x C)) ∧ Kinds K dF dC dS dT C b0 b1 b2 b3 ∧ ∀ p H', Same H H' → H' p = some (.lst (five b0 b1 b2 b3)) → Q (.ref p) H'
/-- asked so, f refuses with an error of the class at C -/
def Ask (P : Program) (w : World) (K : PySem.W.Frag) (mg : PySem.Str → Option Value) (base : Heap) (k : Nat) (f : Addr) (x y : V) (H : Hp) (C : Addr) : Prop :=
  ∃ (fd : FuncData) (ps : List PySem.Str) (sp : Sp), FnOk P w K mg base (CXE P w) k f fd ps sp ∧ Binds K fd ps [] ∧ PySem.W.keepIn K (.ref f) = true ∧ ∀ (Q : VK) (E : XK), E (.ref C) none H → sp [x, y] H Q E
def sp_ltold (P : Program) (w : World) (K : PySem.W.Frag) (mg : PySem.Str → Option Value) (base : Heap) (k : Nat) (dE dF dC dS dT : Addr) : Sp := fun vs H Q _ => ∃ (f : Addr) (x y : V) (C : Addr) (b0 b1 b2 b3 : Bool), vs = [.ref f, x, y] ∧ Ask P w K mg base k f x y H C ∧
  Kinds K dF dC dS dT C b0 b1 b2 b3 ∧ PySem.W.exmOne K (.ref C) (.ref dE) = some true ∧ ∀ p H', Same H H' → H' p = some (.lst (five b0 b1 b2 b3)) → Q (.ref p) H'
def sp_lall (P : Program) (w : World) (K : PySem.W.Frag) (mg : PySem.Str → Option Value) (base : Heap) (k : Nat) (dE dF dC dS dT : Addr) : Sp := fun vs H Q _ => ∃ (f : Addr) (x : V) (l d : Addr) (ts : List V) (C : Addr) (b0 b1 b2 b3 : Bool), vs = [.ref f, x, .ref l, .ref d] ∧ H l = some (.lst ts) ∧ ts.length ≤ 1000 ∧
  H d = some (.lst (five b0 b1 b2 b3)) ∧ (∀ y ∈ ts, ∀ H', Same H H' → Ask P w K mg base k f x y H' C) ∧ Kinds K dF dC dS dT C b0 b1 b2 b3 ∧ PySem.W.exmOne K (.ref C) (.ref dE) = some true ∧ ∀ H', Same H H' → Q (.bl true) H'
end Fc

set_option Elab.async false
set_option linter.all false
set_option maxRecDepth 100000
set_option maxHeartbeats 4000000
namespace Fc
open PySem PySem.Spec PyProof.Rows L2
local macro_rules | `(tactic| walk_at "go") => `(tactic| repeat (first | refine ⟨_, rfl, ?_⟩ | refine ⟨_, _, rfl, rfl, ?_⟩ | refine ⟨rfl, _, rfl, ?_⟩))
def top (i : Nat) : Stmt := PySem.Challenge.pw_foldcurve_k07_refused.main.body.getD i (.Pass ⟨0, 0, 0, 0⟩)
abbrev s_law_cell_at : Stmt := top 41
abbrev s_law_draw : Stmt := top 42
abbrev s_law_folds : Stmt := top 43
abbrev s_law_kinds : Stmt := top 48
abbrev s_law_told : Stmt := top 56
abbrev s_law_all : Stmt := top 57
abbrev s_is_letters_X : Stmt := top 11
abbrev s_need_folds_X : Stmt := top 8
abbrev s_steps_X : Stmt := top 17
abbrev s_is_whole_X : Stmt := top 13
abbrev s_crease_X : Stmt := top 18
abbrev s_lefts_X : Stmt := top 19
abbrev s_creases_X : Stmt := top 20
abbrev s_exchanged_X : Stmt := top 21
abbrev s_backwards_X : Stmt := top 22
abbrev s_need_many_X : Stmt := top 37
abbrev s_place_X : Stmt := top 35
abbrev s_heading_X : Stmt := top 36
abbrev s_law_with_folds : Stmt := top 49
abbrev s_law_with_crease : Stmt := top 50
abbrev s_law_with_lefts : Stmt := top 51
abbrev s_law_with_steps : Stmt := top 52
abbrev s_law_with_heading : Stmt := top 53
abbrev s_law_row : Stmt := top 55
abbrev s_is_turns_X : Stmt := top 12
abbrev s_need_turns_X : Stmt := top 9
abbrev s_is_count_X : Stmt := top 14
abbrev s_need_count_X : Stmt := top 10
abbrev s_told_X : Stmt := top 31
abbrev s_law_with_turns : Stmt := top 54
abbrev s_is_letters : Stmt := top 11
abbrev s_need_folds : Stmt := top 8
abbrev s_steps : Stmt := top 17
abbrev s_is_whole : Stmt := top 13
abbrev s_part_of : Stmt := top 24
abbrev s_in_turn : Stmt := top 25
abbrev s_way_of : Stmt := top 23
abbrev s_creases : Stmt := top 20
abbrev s_lefts : Stmt := top 19
abbrev s_need_many : Stmt := top 37
abbrev s_with_corners : Stmt := top 38
abbrev s_one_further : Stmt := top 39
abbrev s_place : Stmt := top 35
abbrev s_law : Stmt := top 58
theorem sc_law_cell_at : FnScope ["_law_script", "_law_k"] ["_law_script", "_law_k"] (defScope s_law_cell_at) := ⟨rfl, rfl, rfl, by decide +kernel, rfl, by decide +kernel, by decide +kernel⟩
theorem sc_law_draw : FnScope ["_law_cell", "_law_k", "_law_many", "_law_primes"] ["_law_cell", "_law_k", "_law_many"] (defScope s_law_draw) := ⟨rfl, rfl, rfl, by decide +kernel, rfl, by decide +kernel, by decide +kernel⟩
theorem sc_law_folds : FnScope ["_law_script", "_law_by", "_law_kind", "_law_found", "_law_k", "_law_letter"] ["_law_script", "_law_by"] (defScope s_law_folds) := ⟨rfl, rfl, rfl, by decide +kernel, rfl, by decide +kernel, by decide +kernel⟩
theorem sc_law_kinds : FnScope ["_law_error", "_law_found"] ["_law_error"] (defScope s_law_kinds) := ⟨rfl, rfl, rfl, by decide +kernel, rfl, by decide +kernel, by decide +kernel⟩
theorem sc_law_told : FnScope ["_law_ask", "_law_one", "_law_other_here", "_law_error"] ["_law_ask", "_law_one", "_law_other_here"] (defScope s_law_told) := ⟨rfl, rfl, rfl, by decide +kernel, rfl, by decide +kernel, by decide +kernel⟩
theorem sc_law_all : FnScope ["_law_ask", "_law_one", "_law_things", "_law_due"] ["_law_ask", "_law_one", "_law_things", "_law_due"] (defScope s_law_all) := ⟨rfl, rfl, rfl, by decide +kernel, rfl, by decide +kernel, by decide +kernel⟩
theorem sc_is_letters_X : FnScope ["value"] ["value"] (defScope s_is_letters_X) := ⟨rfl, rfl, rfl, by decide +kernel, rfl, by decide +kernel, by decide +kernel⟩
theorem sc_need_folds_X : FnScope ["folds"] ["folds"] (defScope s_need_folds_X) := ⟨rfl, rfl, rfl, by decide +kernel, rfl, by decide +kernel, by decide +kernel⟩
theorem sc_steps_X : FnScope ["folds"] ["folds"] (defScope s_steps_X) := ⟨rfl, rfl, rfl, by decide +kernel, rfl, by decide +kernel, by decide +kernel⟩
theorem sc_is_whole_X : FnScope ["value"] ["value"] (defScope s_is_whole_X) := ⟨rfl, rfl, rfl, by decide +kernel, rfl, by decide +kernel, by decide +kernel⟩
theorem sc_crease_X : FnScope ["folds", "count", "bound"] ["folds", "count"] (defScope s_crease_X) := ⟨rfl, rfl, rfl, by decide +kernel, rfl, by decide +kernel, by decide +kernel⟩
theorem sc_lefts_X : FnScope ["folds", "many", "bound", "total", "rest", "fold", "made"] ["folds", "many"] (defScope s_lefts_X) := ⟨rfl, rfl, rfl, by decide +kernel, rfl, by decide +kernel, by decide +kernel⟩
theorem sc_creases_X : FnScope ["folds", "first", "many", "bound"] ["folds", "first", "many"] (defScope s_creases_X) := ⟨rfl, rfl, rfl, by decide +kernel, rfl, by decide +kernel, by decide +kernel⟩
theorem sc_exchanged_X : FnScope ["folds"] ["folds"] (defScope s_exchanged_X) := ⟨rfl, rfl, rfl, by decide +kernel, rfl, by decide +kernel, by decide +kernel⟩
theorem sc_backwards_X : FnScope ["folds"] ["folds"] (defScope s_backwards_X) := ⟨rfl, rfl, rfl, by decide +kernel, rfl, by decide +kernel, by decide +kernel⟩
theorem sc_need_many_X : FnScope ["folds", "many", "bound"] ["folds", "many"] (defScope s_need_many_X) := ⟨rfl, rfl, rfl, by decide +kernel, rfl, by decide +kernel, by decide +kernel⟩
theorem sc_place_X : FnScope ["folds", "many", "above", "spot", "turned", "part", "quarter", "odd"] ["folds", "many"] (defScope s_place_X) := ⟨rfl, rfl, rfl, by decide +kernel, rfl, by decide +kernel, by decide +kernel⟩
theorem sc_heading_X : FnScope ["folds", "many", "passed", "left", "right"] ["folds", "many"] (defScope s_heading_X) := ⟨rfl, rfl, rfl, by decide +kernel, rfl, by decide +kernel, by decide +kernel⟩
theorem sc_law_with_folds : FnScope ["_law_door", "_law_folds_here"] ["_law_door", "_law_folds_here"] (defScope s_law_with_folds) := ⟨rfl, rfl, rfl, by decide +kernel, rfl, by decide +kernel, by decide +kernel⟩
theorem sc_law_with_crease : FnScope ["_law_folds_here", "_law_count"] ["_law_folds_here", "_law_count"] (defScope s_law_with_crease) := ⟨rfl, rfl, rfl, by decide +kernel, rfl, by decide +kernel, by decide +kernel⟩
theorem sc_law_with_lefts : FnScope ["_law_folds_here", "_law_count"] ["_law_folds_here", "_law_count"] (defScope s_law_with_lefts) := ⟨rfl, rfl, rfl, by decide +kernel, rfl, by decide +kernel, by decide +kernel⟩
theorem sc_law_with_steps : FnScope ["_law_folds_here", "_law_many"] ["_law_folds_here", "_law_many"] (defScope s_law_with_steps) := ⟨rfl, rfl, rfl, by decide +kernel, rfl, by decide +kernel, by decide +kernel⟩
theorem sc_law_with_heading : FnScope ["_law_folds_here", "_law_many"] ["_law_folds_here", "_law_many"] (defScope s_law_with_heading) := ⟨rfl, rfl, rfl, by decide +kernel, rfl, by decide +kernel, by decide +kernel⟩
theorem sc_law_row : FnScope ["_law_folds_here", "_law_pair"] ["_law_folds_here", "_law_pair"] (defScope s_law_row) := ⟨rfl, rfl, rfl, by decide +kernel, rfl, by decide +kernel, by decide +kernel⟩
theorem sc_is_turns_X : FnScope ["value"] ["value"] (defScope s_is_turns_X) := ⟨rfl, rfl, rfl, by decide +kernel, rfl, by decide +kernel, by decide +kernel⟩
theorem sc_need_turns_X : FnScope ["turns"] ["turns"] (defScope s_need_turns_X) := ⟨rfl, rfl, rfl, by decide +kernel, rfl, by decide +kernel, by decide +kernel⟩
theorem sc_is_count_X : FnScope ["value"] ["value"] (defScope s_is_count_X) := ⟨rfl, rfl, rfl, by decide +kernel, rfl, by decide +kernel, by decide +kernel⟩
theorem sc_need_count_X : FnScope ["first"] ["first"] (defScope s_need_count_X) := ⟨rfl, rfl, rfl, by decide +kernel, rfl, by decide +kernel, by decide +kernel⟩
theorem sc_told_X : FnScope ["turns", "first", "folds", "earliest", "place", "turn", "count", "part", "fold"] ["turns", "first"] (defScope s_told_X) := ⟨rfl, rfl, rfl, by decide +kernel, rfl, by decide +kernel, by decide +kernel⟩
theorem sc_law_with_turns : FnScope ["_law_turns", "_law_first"] ["_law_turns", "_law_first"] (defScope s_law_with_turns) := ⟨rfl, rfl, rfl, by decide +kernel, rfl, by decide +kernel, by decide +kernel⟩
theorem sc_is_letters : FnScope ["value"] ["value"] (defScope s_is_letters) := ⟨rfl, rfl, rfl, by decide +kernel, rfl, by decide +kernel, by decide +kernel⟩
theorem sc_need_folds : FnScope ["folds"] ["folds"] (defScope s_need_folds) := ⟨rfl, rfl, rfl, by decide +kernel, rfl, by decide +kernel, by decide +kernel⟩
theorem sc_steps : FnScope ["folds"] ["folds"] (defScope s_steps) := ⟨rfl, rfl, rfl, by decide +kernel, rfl, by decide +kernel, by decide +kernel⟩
theorem sc_is_whole : FnScope ["value"] ["value"] (defScope s_is_whole) := ⟨rfl, rfl, rfl, by decide +kernel, rfl, by decide +kernel, by decide +kernel⟩
theorem sc_part_of : FnScope ["count"] ["count"] (defScope s_part_of) := ⟨rfl, rfl, rfl, by decide +kernel, rfl, by decide +kernel, by decide +kernel⟩
theorem sc_in_turn : FnScope ["letter", "count", "place"] ["letter", "count"] (defScope s_in_turn) := ⟨rfl, rfl, rfl, by decide +kernel, rfl, by decide +kernel, by decide +kernel⟩
theorem sc_way_of : FnScope ["folds", "count"] ["folds", "count"] (defScope s_way_of) := ⟨rfl, rfl, rfl, by decide +kernel, rfl, by decide +kernel, by decide +kernel⟩
theorem sc_creases : FnScope ["folds", "first", "many", "bound"] ["folds", "first", "many"] (defScope s_creases) := ⟨rfl, rfl, rfl, by decide +kernel, rfl, by decide +kernel, by decide +kernel⟩
theorem sc_lefts : FnScope ["folds", "many", "bound", "total", "rest", "fold", "made"] ["folds", "many"] (defScope s_lefts) := ⟨rfl, rfl, rfl, by decide +kernel, rfl, by decide +kernel, by decide +kernel⟩
theorem sc_need_many : FnScope ["folds", "many", "bound"] ["folds", "many"] (defScope s_need_many) := ⟨rfl, rfl, rfl, by decide +kernel, rfl, by decide +kernel, by decide +kernel⟩
theorem sc_with_corners : FnScope ["spot", "quarter"] ["spot", "quarter"] (defScope s_with_corners) := ⟨rfl, rfl, rfl, by decide +kernel, rfl, by decide +kernel, by decide +kernel⟩
theorem sc_one_further : FnScope ["spot", "quarters", "step"] ["spot", "quarters"] (defScope s_one_further) := ⟨rfl, rfl, rfl, by decide +kernel, rfl, by decide +kernel, by decide +kernel⟩
theorem sc_place : FnScope ["folds", "many", "above", "spot", "turned", "part", "quarter", "odd"] ["folds", "many"] (defScope s_place) := ⟨rfl, rfl, rfl, by decide +kernel, rfl, by decide +kernel, by decide +kernel⟩
theorem sc_law : FnScope ["_law_script", "_law_far_here", "_law_due", "_law_k", "_law_folds_here", "_law_whole_here", "_law_at", "_law_bad", "_law_door", "_law_numbers", "_law_ask", "_law_many", "_law_pairs"] ["_law_script"] (defScope s_law) := ⟨rfl, rfl, rfl, by decide +kernel, rfl, by decide +kernel, by decide +kernel⟩
/-- what the top has of names -/
structure Txt (P : Program) (w : World) (K : PySem.W.Frag) (mg : PySem.Str → Option Value) (dFoldError dBadFolds dBadCrease dBadSteps dBadTurns dOTHER dQUARTERS dSTEPS a0 a1 a2 a3 : Addr) : Prop where
  ValueError_ : mg "ValueError" = none
  len_ : mg "len" = none
  isinstance_ : mg "isinstance" = none
  str_ : mg "str" = none
  int_ : mg "int" = none
  bool_ : mg "bool" = none
  range_ : mg "range" = none
  all_ : mg "all" = none
  enumerate_ : mg "enumerate" = none
  OTHER : mg "OTHER" = some (.ref dOTHER)
  OTHER_tab : ∀ h : Heap, K.In h → StrTab P w h dOTHER (tabO.map fun p => (PyData.str p.1, p.2))
  QUARTERS : mg "QUARTERS" = some (.ref dQUARTERS)
  QUARTERS_tab : ∀ h : Heap, K.In h → StrTab P w h dQUARTERS (tabQ.map fun p => (PyData.str p.1, p.2))
  STEPS : mg "STEPS" = some (.ref dSTEPS)
  STEPS_tup : TupK K dSTEPS [.ref a0, .ref a1, .ref a2, .ref a3]
  st0 : TupK K a0 [.int 1, .int 0]
  st1 : TupK K a1 [.int 0, .int 1]
  st2 : TupK K a2 [.int (-1), .int 0]
  st3 : TupK K a3 [.int 0, .int (-1)]
  ib : PySem.W.kitOne K (.type "int") (.type "bool") = some false
  FoldError : mg "FoldError" = some (.ref dFoldError)
  BadFolds : mg "BadFolds" = some (.ref dBadFolds)
  BadFolds_x : PySem.W.excIn K dBadFolds [.type "ValueError", .type "Exception", .type "BaseException", .type "object"] "ValueError.__new__" = true
  BadFolds_FoldError : PySem.W.exmOne K (.ref dBadFolds) (.ref dFoldError) = some true
  BadCrease : mg "BadCrease" = some (.ref dBadCrease)
  BadCrease_x : PySem.W.excIn K dBadCrease [.type "ValueError", .type "Exception", .type "BaseException", .type "object"] "ValueError.__new__" = true
  BadCrease_FoldError : PySem.W.exmOne K (.ref dBadCrease) (.ref dFoldError) = some true
  BadSteps : mg "BadSteps" = some (.ref dBadSteps)
  BadSteps_x : PySem.W.excIn K dBadSteps [.type "ValueError", .type "Exception", .type "BaseException", .type "object"] "ValueError.__new__" = true
  BadSteps_FoldError : PySem.W.exmOne K (.ref dBadSteps) (.ref dFoldError) = some true
  BadTurns : mg "BadTurns" = some (.ref dBadTurns)
  BadTurns_x : PySem.W.excIn K dBadTurns [.type "ValueError", .type "Exception", .type "BaseException", .type "object"] "ValueError.__new__" = true
  BadTurns_FoldError : PySem.W.exmOne K (.ref dBadTurns) (.ref dFoldError) = some true
  s_NoneType : PySem.W.kitOne K (.type "NoneType") (.type "str") = some false
  s_int : PySem.W.kitOne K (.type "int") (.type "str") = some false
  s_bool : PySem.W.kitOne K (.type "bool") (.type "str") = some false
  s_list : PySem.W.kitOne K (.type "list") (.type "str") = some false
  s_tuple : PySem.W.kitOne K (.type "tuple") (.type "str") = some false
  i_NoneType : PySem.W.kitOne K (.type "NoneType") (.type "int") = some false
  i_str : PySem.W.kitOne K (.type "str") (.type "int") = some false
  i_list : PySem.W.kitOne K (.type "list") (.type "int") = some false
  i_tuple : PySem.W.kitOne K (.type "tuple") (.type "int") = some false
  i_bool : PySem.W.kitOne K (.type "bool") (.type "int") = some true
  oc_get : PySem.W.specialIn K (.builtin "object.__class__") "__get__" = some (some (.builtin "getset_descriptor.__get__"))
  oc_tk : PySem.W.takesIn K (.builtin "object.__class__") = some true
  BadFolds_ga : PySem.W.findIn K (.ref dBadFolds) "__getattribute__" = some (some (.builtin "BaseException.__getattribute__"))
  BadFolds_gt : PySem.W.findIn K (.ref dBadFolds) "__getattr__" = some none
  BadFolds_at : PySem.W.findIn K (.ref dBadFolds) "__class__" = some (some (.builtin "object.__class__"))
  BadFolds_mro : PySem.W.mroIn K dBadFolds (.type "object") = some true
  BadFolds_is : (PySem.W.clsIn K dBadFolds).isSome = true
  BadFolds_BadCrease : PySem.W.kitOne K (.ref dBadFolds) (.ref dBadCrease) = some false
  BadFolds_BadSteps : PySem.W.kitOne K (.ref dBadFolds) (.ref dBadSteps) = some false
  BadFolds_BadTurns : PySem.W.kitOne K (.ref dBadFolds) (.ref dBadTurns) = some false
  BadFolds_V : PySem.W.kitOne K (.ref dBadFolds) (.type "ValueError") = some true
  BadCrease_ga : PySem.W.findIn K (.ref dBadCrease) "__getattribute__" = some (some (.builtin "BaseException.__getattribute__"))
  BadCrease_gt : PySem.W.findIn K (.ref dBadCrease) "__getattr__" = some none
  BadCrease_at : PySem.W.findIn K (.ref dBadCrease) "__class__" = some (some (.builtin "object.__class__"))
  BadCrease_mro : PySem.W.mroIn K dBadCrease (.type "object") = some true
  BadCrease_is : (PySem.W.clsIn K dBadCrease).isSome = true
  BadCrease_BadFolds : PySem.W.kitOne K (.ref dBadCrease) (.ref dBadFolds) = some false
  BadCrease_BadSteps : PySem.W.kitOne K (.ref dBadCrease) (.ref dBadSteps) = some false
  BadCrease_BadTurns : PySem.W.kitOne K (.ref dBadCrease) (.ref dBadTurns) = some false
  BadCrease_V : PySem.W.kitOne K (.ref dBadCrease) (.type "ValueError") = some true
  BadSteps_ga : PySem.W.findIn K (.ref dBadSteps) "__getattribute__" = some (some (.builtin "BaseException.__getattribute__"))
  BadSteps_gt : PySem.W.findIn K (.ref dBadSteps) "__getattr__" = some none
  BadSteps_at : PySem.W.findIn K (.ref dBadSteps) "__class__" = some (some (.builtin "object.__class__"))
  BadSteps_mro : PySem.W.mroIn K dBadSteps (.type "object") = some true
  BadSteps_is : (PySem.W.clsIn K dBadSteps).isSome = true
  BadSteps_BadFolds : PySem.W.kitOne K (.ref dBadSteps) (.ref dBadFolds) = some false
  BadSteps_BadCrease : PySem.W.kitOne K (.ref dBadSteps) (.ref dBadCrease) = some false
  BadSteps_BadTurns : PySem.W.kitOne K (.ref dBadSteps) (.ref dBadTurns) = some false
  BadSteps_V : PySem.W.kitOne K (.ref dBadSteps) (.type "ValueError") = some true
  BadTurns_ga : PySem.W.findIn K (.ref dBadTurns) "__getattribute__" = some (some (.builtin "BaseException.__getattribute__"))
  BadTurns_gt : PySem.W.findIn K (.ref dBadTurns) "__getattr__" = some none
  BadTurns_at : PySem.W.findIn K (.ref dBadTurns) "__class__" = some (some (.builtin "object.__class__"))
  BadTurns_mro : PySem.W.mroIn K dBadTurns (.type "object") = some true
  BadTurns_is : (PySem.W.clsIn K dBadTurns).isSome = true
  BadTurns_BadFolds : PySem.W.kitOne K (.ref dBadTurns) (.ref dBadFolds) = some false
  BadTurns_BadCrease : PySem.W.kitOne K (.ref dBadTurns) (.ref dBadCrease) = some false
  BadTurns_BadSteps : PySem.W.kitOne K (.ref dBadTurns) (.ref dBadSteps) = some false
  BadTurns_V : PySem.W.kitOne K (.ref dBadTurns) (.type "ValueError") = some true
section
variable {P : Program} {w : World} {K : PySem.W.Frag} {mg : PySem.Str → Option Value} {base : Heap} {dFoldError dBadFolds dBadCrease dBadSteps dBadTurns dOTHER dQUARTERS dSTEPS a0 a1 a2 a3 : Addr}
theorem has_law_cell_at (D : Df K mg "_law_cell_at" s_law_cell_at ["_law_script", "_law_k"]) (T : Txt P w K mg dFoldError dBadFolds dBadCrease dBadSteps dBadTurns dOTHER dQUARTERS dSTEPS a0 a1 a2 a3) : Has P w K mg base "_law_cell_at" 1 ["_law_script", "_law_k"] (sp_cell K) := by
  refine D.has fun f fd F => F.ok sc_law_cell_at (fun vs H Q E h => ?_) (fun cdv A outer s H vs Q E hr h => ?_)
  · obtain ⟨a, ns, k, rfl, _⟩ := h
    rfl
  obtain ⟨a, ns, k, rfl, hS, h0, q⟩ := h
  refine ⟨_, (@pss_cons _ _ _ _ _ (@ps_if _ _ _ _ _ _ _ _ (@pt_cmpR _ _ _ _ _ _ _ _ (@op_lt _) (@pv _ 1 _ _ rfl (Or.inl rfl) (by decide) (by decide)) (@pe_callB _ _ _ _ _ _ _ _ _ (@call_len_seq _) rfl T.len_ PySem.boot_len (@pa_cons _ _ _ _ _ (@pv _ 0 _ _ rfl (Or.inl rfl) (by decide) (by decide)) (@pa_nil _) (by rfl)) (by decide) (by decide) (by rfl) (by rfl)) (nomark _)) (@pss_one _ _ _ (@ps_ret _ _ _ _ (@pe_ix _ _ _ _ _ _ _ (@ix_list _) (@pv _ 0 _ _ rfl (Or.inl rfl) (by decide) (by decide)) (@pv _ 1 _ _ rfl (Or.inl rfl) (by decide) (by decide)) (fun _ _ => rfl)))) (@pss_nil _)) (@pss_one _ _ _ (@ps_ret _ _ _ _ (@pe_int _ _ _ _)))), ?_⟩
  refine ⟨_, rfl, _, rfl, a, _, rfl, .inl hS, _, _, rfl, rfl, _, rfl, ?_⟩
  refine iteD (fun hk => ?_) (fun hk => q _)
  rw [List.length_map] at hk
  have hat : atI (ns.map V.int) k = some (V.int (ns.getD k.toNat 0)) := by
    have e : k = ((k.toNat : Nat) : Int) := by omega
    have hlt : k.toNat < ns.length := by omega
    rw [e, Int.toNat_natCast]
    exact atI_nat (by rw [List.getElem?_map, List.getD_eq_getElem?_getD, List.getElem?_eq_getElem hlt]; rfl)
  exact ⟨_, rfl, _, rfl, a, _, _, _, rfl, rfl, hS, hat, q _⟩
theorem has_law_draw (D : Df K mg "_law_draw" s_law_draw ["_law_cell", "_law_k", "_law_many"]) (T : Txt P w K mg dFoldError dBadFolds dBadCrease dBadSteps dBadTurns dOTHER dQUARTERS dSTEPS a0 a1 a2 a3) : Has P w K mg base "_law_draw" 1 ["_law_cell", "_law_k", "_law_many"] sp_draw := by
  refine D.has fun f fd F => F.ok sc_law_draw (fun vs H Q E h => ?_) (fun cdv A outer s H vs Q E hr h => ?_)
  · obtain ⟨c, k, m, rfl, _⟩ := h
    rfl
  obtain ⟨c, k, m, rfl, h0, hm, q⟩ := h
  refine ⟨_, (@pss_cons _ _ _ _ _ (@ps_set _ _ (3) _ _ _ _ sc_law_draw.nd rfl (Or.inl rfl) (@pe_tup _ _ _ _ _ (@pa_ints _ _ ([1000003, 1000033, 1000037, 1000039, 1000081, 1000099, 1000117, 1000121, 1000133, 1000151, 1000159, 1000171, 1000183, 1000187, 1000193, 1000199]) (by repeat' constructor))) (by rfl) (by first | exact .inl rfl | exact .inr rfl | assumption)) (@pss_one _ _ _ (@ps_ret _ _ _ _ (@pe_op _ _ _ _ _ _ _ _ (@op_mod _) (@pe_op _ _ _ _ _ _ _ _ (@op_mod _) (@pe_op _ _ _ _ _ _ _ _ (@op_add _) (@pe_op _ _ _ _ _ _ _ _ (@op_mul _) (@pv _ 0 _ _ rfl (Or.inl rfl) (by decide) (by decide)) (@pe_int _ _ _ _)) (@pe_op _ _ _ _ _ _ _ _ (@op_mul _) (@pv _ 1 _ _ rfl (Or.inl rfl) (by decide) (by decide)) (@pe_int _ _ _ _))) (@pe_ix _ _ _ _ _ _ _ (@ix_tup _) (@pv _ 3 _ _ rfl (Or.inl rfl) (by decide) (by decide)) (@pe_op _ _ _ _ _ _ _ _ (@op_mod _) (@pv _ 1 _ _ rfl (Or.inl rfl) (by decide) (by decide)) (@pe_int _ _ _ _)) (fun _ _ => rfl))) (@pv _ 2 _ _ rfl (Or.inl rfl) (by decide) (by decide)))))), ?_⟩
  refine ⟨(by show 16 ≤ sizeLine; decide), fun p hp => ?_⟩
  obtain ⟨pr, hat, hpr⟩ := prime_at h0
  refine ⟨_, rfl, _, _, rfl, rfl, .inr ⟨by decide, by decide⟩, _, rfl, _, _, rfl, rfl, .inr ⟨by decide, by decide⟩, _, _, rfl, rfl, _, rfl, _, rfl, _, _, rfl, rfl, (by show (0 : Int) < 16; decide), p, _, _, _, rfl, rfl, SqT.of upd_same, hat, _, _, rfl, rfl, hpr, _, rfl, _, _, rfl, rfl, hm, ?_⟩
  exact q _ (Int.emod_nonneg _ (by omega)) (Int.emod_lt_of_pos _ hm) _ (same_new hp _)
theorem has_law_folds (D : Df K mg "_law_folds" s_law_folds ["_law_script", "_law_by"]) (T : Txt P w K mg dFoldError dBadFolds dBadCrease dBadSteps dBadTurns dOTHER dQUARTERS dSTEPS a0 a1 a2 a3) (c_law_draw : Has P w K mg base "_law_draw" 1 ["_law_cell", "_law_k", "_law_many"] sp_draw) (c_law_cell_at : Has P w K mg base "_law_cell_at" 1 ["_law_script", "_law_k"] (sp_cell K)) : Has P w K mg base "_law_folds" 2 ["_law_script", "_law_by"] (sp_folds K) := by
  refine D.has fun f fd F => F.ok sc_law_folds (fun vs H Q E h => ?_) (fun cdv A outer s H vs Q E hr h => ?_)
  · obtain ⟨a, ns, b, rfl, _⟩ := h
    rfl
  obtain ⟨a, ns, b, rfl, hS, h63, hb, q⟩ := h
  refine ⟨_, (@pss_cons _ _ _ _ _ (@ps_set _ _ (2) _ _ _ _ sc_law_folds.nd rfl (Or.inl rfl) (@pe_fn _ _ _ _ _ _ _ _ _ _ _ c_law_draw hr rfl (@pa_cons _ _ _ _ _ (@pe_fn _ _ _ _ _ _ _ _ _ _ _ c_law_cell_at hr rfl (@pa_cons _ _ _ _ _ (@pv _ 0 _ _ rfl (Or.inl rfl) (by decide) (by decide)) (@pa_cons _ _ _ _ _ (@pe_int _ _ _ _) (@pa_nil _) (by rfl)) (by rfl)) (by decide) (by decide) (by rfl) (by rfl)) (@pa_cons _ _ _ _ _ (@pe_int _ _ _ _) (@pa_cons _ _ _ _ _ (@pe_int _ _ _ _) (@pa_nil _) (by rfl)) (by rfl)) (by rfl)) (by decide) (by decide) (by rfl) (by rfl)) (by rfl) (by first | exact .inl rfl | exact .inr rfl | assumption)) (@pss_cons _ _ _ _ _ (@ps_set _ _ (3) _ _ _ _ sc_law_folds.nd rfl (Or.inl rfl) (@pe_str _ _ _ _) (by rfl) (by first | exact .inl rfl | exact .inr rfl | assumption)) (@pss_cons _ _ _ _ _ (@ps_for _ _ _ _ _ _ _ _ PassesOwn.never rfl (@pi_rngA1 _ _ _ _ _ _ rfl T.range_ (@pa_cons _ _ _ _ _ (@pe_callB _ _ _ _ _ _ _ _ _ (@call_len_seq _) rfl T.len_ PySem.boot_len (@pa_cons _ _ _ _ _ (@pv _ 0 _ _ rfl (Or.inl rfl) (by decide) (by decide)) (@pa_nil _) (by rfl)) (by decide) (by decide) (by rfl) (by rfl)) (@pa_nil _) (by rfl)) (by rfl)) (@pg_name _ _ (4) _ sc_law_folds.nd rfl (Or.inl rfl) (by first | exact .inl rfl | exact .inr rfl | assumption)) (@pss_cons _ _ _ _ _ (@ps_set _ _ (5) _ _ _ _ sc_law_folds.nd rfl (Or.inl rfl) (@pe_ix _ _ _ _ _ _ _ (@ix_str _) (@pe_str _ _ _ _) (@pe_fn _ _ _ _ _ _ _ _ _ _ _ c_law_draw hr rfl (@pa_cons _ _ _ _ _ (@pe_ix _ _ _ _ _ _ _ (@ix_list _) (@pv _ 0 _ _ rfl (Or.inl rfl) (by decide) (by decide)) (@pv _ 4 _ _ rfl (Or.inl rfl) (by decide) (by decide)) (fun _ _ => rfl)) (@pa_cons _ _ _ _ _ (@pe_op _ _ _ _ _ _ _ _ (@op_add _) (@pe_op _ _ _ _ _ _ _ _ (@op_mod _) (@pv _ 4 _ _ rfl (Or.inl rfl) (by decide) (by decide)) (@pe_int _ _ _ _)) (@pv _ 1 _ _ rfl (Or.inl rfl) (by decide) (by decide))) (@pa_cons _ _ _ _ _ (@pe_int _ _ _ _) (@pa_nil _) (by rfl)) (by rfl)) (by rfl)) (by decide) (by decide) (by rfl) (by rfl)) (fun _ _ => rfl)) (by rfl) (by first | exact .inl rfl | exact .inr rfl | assumption)) (@pss_cons _ _ _ _ _ (@ps_if _ _ _ _ _ _ _ _ (@pt_cmpR _ _ _ _ _ _ _ _ (@op_eq _) (@pv _ 2 _ _ rfl (Or.inl rfl) (by decide) (by decide)) (@pe_int _ _ _ _) (nomark _)) (@pss_one _ _ _ (@ps_set _ _ (5) _ _ _ _ sc_law_folds.nd rfl (Or.inl rfl) (@pe_ix _ _ _ _ _ _ _ (@ix_str _) (@pe_str _ _ _ _) (@pe_fn _ _ _ _ _ _ _ _ _ _ _ c_law_draw hr rfl (@pa_cons _ _ _ _ _ (@pe_ix _ _ _ _ _ _ _ (@ix_list _) (@pv _ 0 _ _ rfl (Or.inl rfl) (by decide) (by decide)) (@pe_int _ _ _ _) (fun _ _ => rfl)) (@pa_cons _ _ _ _ _ (@pv _ 1 _ _ rfl (Or.inl rfl) (by decide) (by decide)) (@pa_cons _ _ _ _ _ (@pe_int _ _ _ _) (@pa_nil _) (by rfl)) (by rfl)) (by rfl)) (by decide) (by decide) (by rfl) (by rfl)) (fun _ _ => rfl)) (by rfl) (by first | exact .inl rfl | exact .inr rfl | assumption))) (@pss_nil _)) (@pss_cons _ _ _ _ _ (@ps_if _ _ _ _ _ _ _ _ (@pt_cmpR _ _ _ _ _ _ _ _ (@op_eq _) (@pv _ 2 _ _ rfl (Or.inl rfl) (by decide) (by decide)) (@pe_int _ _ _ _) (nomark _)) (@pss_one _ _ _ (@ps_set _ _ (5) _ _ _ _ sc_law_folds.nd rfl (Or.inl rfl) (@pe_ix _ _ _ _ _ _ _ (@ix_str _) (@pe_str _ _ _ _) (@pe_op _ _ _ _ _ _ _ _ (@op_mod _) (@pe_op _ _ _ _ _ _ _ _ (@op_add _) (@pv _ 4 _ _ rfl (Or.inl rfl) (by decide) (by decide)) (@pe_fn _ _ _ _ _ _ _ _ _ _ _ c_law_draw hr rfl (@pa_cons _ _ _ _ _ (@pe_ix _ _ _ _ _ _ _ (@ix_list _) (@pv _ 0 _ _ rfl (Or.inl rfl) (by decide) (by decide)) (@pe_int _ _ _ _) (fun _ _ => rfl)) (@pa_cons _ _ _ _ _ (@pv _ 1 _ _ rfl (Or.inl rfl) (by decide) (by decide)) (@pa_cons _ _ _ _ _ (@pe_int _ _ _ _) (@pa_nil _) (by rfl)) (by rfl)) (by rfl)) (by decide) (by decide) (by rfl) (by rfl))) (@pe_int _ _ _ _)) (fun _ _ => rfl)) (by rfl) (by first | exact .inl rfl | exact .inr rfl | assumption))) (@pss_nil _)) (@pss_one _ _ _ (@ps_set _ _ (3) _ _ _ _ sc_law_folds.nd rfl (Or.inl rfl) (@pe_op _ _ _ _ _ _ _ _ (@op_add_str _) (@pv _ 3 _ _ rfl (Or.inl rfl) (by decide) (by decide)) (@pv _ 5 _ _ rfl (Or.inl rfl) (by decide) (by decide))) (by rfl) (by first | exact .inl rfl | exact .inr rfl | assumption)))))) (by intro _; rfl)) (@pss_one _ _ _ (@ps_ret _ _ _ _ (@pv _ 3 _ _ rfl (Or.inl rfl) (by decide) (by decide))))))), ?_⟩
  refine ⟨_, rfl, a, ns, 0, rfl, hS, Int.le_refl 0, fun v => ?_⟩
  refine ⟨v, 6, 4, rfl, by decide, by decide, fun kd _ _ H1 g1 => ?_⟩
  refine ⟨_, rfl, a, _, rfl, .inl (g1.seq hS), _, rfl, for_range (fun i σ H2 => Same H H2 ∧ ∃ (fo : PySem.Str) (kk le : Option V), σ = [some (.ref a), some (.int b), some (.int kd), some (.str fo), kk, le] ∧ Lr (cs fo) ∧ (cs fo).length = i)
    ⟨g1, _, none, none, rfl, by rw [code_0]; intro c hc; simp [cs] at hc, by rw [code_0]; rfl⟩ ?_ ?_⟩
  · rintro i σ H2 hi ⟨g2, fo, kk, le, rfl, hlr, hlen⟩
    rw [List.length_map, Int.toNat_natCast] at hi
    obtain ⟨z, hz⟩ := int_at hi
    obtain ⟨z0, hz0⟩ := int_at0 (ns := ns) (by omega)
    refine ⟨_, rfl, _, rfl, a, _, _, _, rfl, rfl, g2.seq hS, hz, _, rfl, _, _, rfl, rfl, (by show (0 : Int) < 5; decide), _, rfl, _, _, rfl, rfl, _, _, 2, rfl, by omega, by decide, fun r hr0 hr2 H3 g3 => ?_⟩
    obtain ⟨c, hc, hclr⟩ := lr_at hr0 hr2
    refine ⟨_, _, c, rfl, rfl, (by decide +kernel), hc, ?_⟩
    have g23 := g2.trans g3
    refine ⟨_, rfl, rfl, _, rfl, ?_⟩
    have fin : ∀ (c' : Nat) (H' : Hp), Same H H' → (c' = 108 ∨ c' = 114) → (cs fo).length + 1 ≤ 64 → Same H H' ∧ ∃ (fo' : PySem.Str) (kk' le' : Option V), [some (.ref a), some (.int b), some (.int kd), some (.str (fo ++ ⟨#[c']⟩)), some (.int (0 + (i : Int))), some (.str ⟨#[c']⟩)] = [some (V.ref a), some (.int b), some (.int kd), some (.str fo'), kk', le'] ∧ Lr (cs fo') ∧ (cs fo').length = i + 1 :=
      fun c' H' g hc' _ => ⟨g, _, _, _, rfl, lr_snoc hlr hc', by rw [len_snoc, hlen]⟩
    have size : ∀ c' : Nat, fo.length + (⟨#[c']⟩ : PySem.Str).length ≤ sizeLine := fun c' => by
      have e : (⟨#[c']⟩ : PySem.Str).length = 1 := rfl
      rw [e, ← cs_length, hlen]
      exact small (by omega)
    refine iteD (fun _ => ?_) (fun _ => ?_)
    · refine ⟨_, rfl, a, _, _, _, rfl, rfl, g23.seq hS, hz0, _, rfl, _, b, 2, rfl, hb, by decide, fun r' hr0' hr2' H4 g4 => ?_⟩
      obtain ⟨c2, hc2, hclr2⟩ := lr_at hr0' hr2'
      refine ⟨_, _, c2, rfl, rfl, (by decide +kernel), hc2, ?_⟩
      refine ⟨_, rfl, rfl, _, rfl, ?_⟩
      have g24 := g23.trans g4
      refine iteD (fun _ => ?_) (fun _ => ?_)
      · refine ⟨_, rfl, _, rfl, a, _, _, _, rfl, rfl, g24.seq hS, hz0, _, rfl, _, b, 2, rfl, hb, by decide, fun r5 hr05 hr25 H5 g5 => ?_⟩
        refine ⟨_, _, rfl, rfl, _, _, rfl, rfl, (by show (0 : Int) < 2; decide), ?_⟩
        obtain ⟨c5, hc5, hclr5⟩ := lr_at (Int.emod_nonneg (0 + (i : Int) + r5) (by decide : (2 : Int) ≠ 0)) (Int.emod_lt_of_pos (0 + (i : Int) + r5) (by decide))
        refine ⟨_, _, c5, rfl, rfl, (by decide +kernel), hc5, ?_⟩
        exact ⟨_, rfl, _, rfl, _, _, rfl, rfl, size c5, fin c5 H5 (g24.trans g5) hclr5 (by omega)⟩
      · exact ⟨_, rfl, _, rfl, _, _, rfl, rfl, size c2, fin c2 H4 g24 hclr2 (by omega)⟩
    · refine ⟨_, rfl, rfl, _, rfl, ?_⟩
      refine iteD (fun _ => ?_) (fun _ => ?_)
      · refine ⟨_, rfl, _, rfl, a, _, _, _, rfl, rfl, g23.seq hS, hz0, _, rfl, _, b, 2, rfl, hb, by decide, fun r5 hr05 hr25 H5 g5 => ?_⟩
        refine ⟨_, _, rfl, rfl, _, _, rfl, rfl, (by show (0 : Int) < 2; decide), ?_⟩
        obtain ⟨c5, hc5, hclr5⟩ := lr_at (Int.emod_nonneg (0 + (i : Int) + r5) (by decide : (2 : Int) ≠ 0)) (Int.emod_lt_of_pos (0 + (i : Int) + r5) (by decide))
        refine ⟨_, _, c5, rfl, rfl, (by decide +kernel), hc5, ?_⟩
        exact ⟨_, rfl, _, rfl, _, _, rfl, rfl, size c5, fin c5 H5 (g23.trans g5) hclr5 (by omega)⟩
      · exact ⟨_, rfl, _, rfl, _, _, rfl, rfl, size c, fin c H3 g23 hclr (by omega)⟩
  · rintro σ H2 ⟨g2, fo, kk, le, rfl, hlr, hlen⟩
    rw [List.length_map, Int.toNat_natCast] at hlen
    exact ⟨_, rfl, q fo hlr hlen H2 g2⟩
theorem has_law_kinds (D : Df K mg "_law_kinds" s_law_kinds ["_law_error"]) (T : Txt P w K mg dFoldError dBadFolds dBadCrease dBadSteps dBadTurns dOTHER dQUARTERS dSTEPS a0 a1 a2 a3) : HasH P w K mg base "_law_kinds" 1 ["_law_error"] (sp_kinds K dBadFolds dBadCrease dBadSteps dBadTurns) := by
  refine D.hasH fun f fd F => F.okH sc_law_kinds (fun vs H Q E h => ?_) (fun cdv A outer s H vs Q E hr h => ?_)
  · obtain ⟨x, C, b0, b1, b2, b3, rfl, _⟩ := h
    rfl
  obtain ⟨x, C, b0, b1, b2, b3, rfl, hx, kd, q⟩ := h
  refine ⟨_, (@pss_cons _ _ _ _ _ (@ps_set _ _ (1) _ _ _ _ sc_law_kinds.nd rfl (Or.inl rfl) (@pe_lst _ _ _ _ (@pa_cons _ _ _ _ _ (@pe_callB _ _ _ _ _ _ _ _ _ (@call_isinstX _) rfl T.isinstance_ PyProof.Rows.boot_isinstance (@pa_cons _ _ _ _ _ (@pv _ 0 _ _ rfl (Or.inl rfl) (by decide) (by decide)) (@pa_cons _ _ _ _ _ (@pe_glob _ _ (.ref dBadFolds) _ _ rfl T.BadFolds rfl (by decide)) (@pa_nil _) (by rfl)) (by rfl)) (by decide) (by decide) (by rfl) (by rfl)) (@pa_cons _ _ _ _ _ (@pe_callB _ _ _ _ _ _ _ _ _ (@call_isinstX _) rfl T.isinstance_ PyProof.Rows.boot_isinstance (@pa_cons _ _ _ _ _ (@pv _ 0 _ _ rfl (Or.inl rfl) (by decide) (by decide)) (@pa_cons _ _ _ _ _ (@pe_glob _ _ (.ref dBadCrease) _ _ rfl T.BadCrease rfl (by decide)) (@pa_nil _) (by rfl)) (by rfl)) (by decide) (by decide) (by rfl) (by rfl)) (@pa_cons _ _ _ _ _ (@pe_callB _ _ _ _ _ _ _ _ _ (@call_isinstX _) rfl T.isinstance_ PyProof.Rows.boot_isinstance (@pa_cons _ _ _ _ _ (@pv _ 0 _ _ rfl (Or.inl rfl) (by decide) (by decide)) (@pa_cons _ _ _ _ _ (@pe_glob _ _ (.ref dBadSteps) _ _ rfl T.BadSteps rfl (by decide)) (@pa_nil _) (by rfl)) (by rfl)) (by decide) (by decide) (by rfl) (by rfl)) (@pa_nil _) (by rfl)) (by rfl)) (by rfl))) (by rfl) (by first | exact .inl rfl | exact .inr rfl | assumption)) (@pss_one _ _ _ (@ps_ret _ _ _ _ (@pe_op _ _ _ _ _ _ _ _ (@op_cat _) (@pv _ 1 _ _ rfl (Or.inl rfl) (by decide) (by decide)) (@pe_lst _ _ _ _ (@pa_cons _ _ _ _ _ (@pe_callB _ _ _ _ _ _ _ _ _ (@call_isinstX _) rfl T.isinstance_ PyProof.Rows.boot_isinstance (@pa_cons _ _ _ _ _ (@pv _ 0 _ _ rfl (Or.inl rfl) (by decide) (by decide)) (@pa_cons _ _ _ _ _ (@pe_glob _ _ (.ref dBadTurns) _ _ rfl T.BadTurns rfl (by decide)) (@pa_nil _) (by rfl)) (by rfl)) (by decide) (by decide) (by rfl) (by rfl)) (@pa_cons _ _ _ _ _ (@pe_callB _ _ _ _ _ _ _ _ _ (@call_isinstX _) rfl T.isinstance_ PyProof.Rows.boot_isinstance (@pa_cons _ _ _ _ _ (@pv _ 0 _ _ rfl (Or.inl rfl) (by decide) (by decide)) (@pa_cons _ _ _ _ _ (@pe_bltn _ _ (.ty "ValueError") _ _ rfl T.ValueError_ PyProof.Rows.Boot.«ValueError» rfl (by decide) (by decide)) (@pa_nil _) (by rfl)) (by rfl)) (by decide) (by decide) (by rfl) (by rfl)) (@pa_nil _) (by rfl)) (by rfl))))))), ?_⟩
  refine ⟨_, rfl, x, C, _, _, b0, rfl, .inl ⟨_, rfl, rfl⟩, hx, kd.ex, kd.k0, ?_⟩
  refine ⟨_, rfl, x, C, _, _, b1, rfl, .inl ⟨_, rfl, rfl⟩, hx, kd.ex, kd.k1, ?_⟩
  refine ⟨_, rfl, x, C, _, _, b2, rfl, .inl ⟨_, rfl, rfl⟩, hx, kd.ex, kd.k2, small (Nat.le_of_ble_eq_true rfl), fun l1 h1 => ?_⟩
  generalize hg1 : upd _ l1 _ = H1
  have g1 := same_of h1 hg1
  have hx1 := g1 _ _ hx
  refine ⟨_, rfl, ?_⟩
  refine ⟨_, rfl, x, C, _, _, b3, rfl, .inl ⟨_, rfl, rfl⟩, hx1, kd.ex, kd.k3, ?_⟩
  refine ⟨_, rfl, x, C, _, _, true, rfl, .inr ⟨_, rfl, rfl⟩, hx1, kd.ex, kd.k4, small (Nat.le_of_ble_eq_true rfl), fun l2 h2 => ?_⟩
  generalize hg2 : upd _ l2 _ = H2
  have g2 := same_of h2 hg2
  refine ⟨l1, l2, _, _, rfl, rfl, g2 _ _ (at_of hg1), at_of hg2, small (Nat.le_of_ble_eq_true rfl), fun l3 h3 => ?_⟩
  exact q l3 _ ((g1.trans g2).trans (same_new h3 _)) upd_same
theorem has_law_told (D : Df K mg "_law_told" s_law_told ["_law_ask", "_law_one", "_law_other_here"]) (T : Txt P w K mg dFoldError dBadFolds dBadCrease dBadSteps dBadTurns dOTHER dQUARTERS dSTEPS a0 a1 a2 a3) (c_law_kinds : HasH P w K mg base "_law_kinds" 1 ["_law_error"] (sp_kinds K dBadFolds dBadCrease dBadSteps dBadTurns)) : Has P w K mg base "_law_told" 8 ["_law_ask", "_law_one", "_law_other_here"] (sp_ltold P w K mg base 7 dFoldError dBadFolds dBadCrease dBadSteps dBadTurns) := by
  refine D.has fun f fd F => F.ok sc_law_told (fun vs H Q E h => ?_) (fun cdv A outer s H vs Q E hr h => ?_)
  · obtain ⟨f', x, y, C, b0, b1, b2, b3, rfl, _⟩ := h
    rfl
  obtain ⟨f', x, y, C, b0, b1, b2, b3, rfl, ask, kd, em, q⟩ := h
  refine ⟨_, (@pss_cons _ _ _ _ _ (@ps_tryAs _ _ _ _ (3) _ _ _ _ _ _ _ _ (Lvl.mk rfl rfl rfl) rfl T.FoldError sc_law_told.nd rfl rfl (fun pins R => (@pss_one _ _ _ (@ps_expr _ _ _ _ (@pe_callV _ _ _ _ _ _ _ _ _ _ (0) rfl rfl hr (@pa_cons _ _ _ _ _ (@pv _ 1 _ _ (by rfl) (by first | exact Or.inl rfl | exact Or.inr (Or.inl rfl) | exact Or.inr (Or.inr rfl)) (by decide) (by decide)) (@pa_cons _ _ _ _ _ (@pv _ 2 _ _ (by rfl) (by first | exact Or.inl rfl | exact Or.inr (Or.inl rfl) | exact Or.inr (Or.inr rfl)) (by decide) (by decide)) (@pa_nil _) (by rfl)) (by rfl)) (by decide) (by rfl) (by rfl)) (by rfl)))) (fun x => (@pss_one _ _ _ (@ps_ret _ _ _ _ (@pe_fnH _ _ _ _ _ _ _ _ _ _ _ _ c_law_kinds hr rfl (@pa_cons _ _ _ _ _ (@pv _ 3 _ _ (by rfl) (by first | exact Or.inl rfl | exact Or.inr (Or.inl rfl) | exact Or.inr (Or.inr rfl)) (by decide) (by decide)) (@pa_nil _) (by rfl)) (by decide) (by decide) (by rfl) (by rfl))))) (by decide)) (@pss_one _ _ _ (@ps_ret _ _ _ _ (@pe_lst _ _ _ _ (@pa_nil _))))), ?_⟩
  obtain ⟨fd', ps', sp', F', b', kp', sp⟩ := ask
  refine ⟨f', fd', ps', sp', rfl, F', b', kp', _, rfl, _, rfl, sp _ _ ⟨C, rfl, em, fun z hz => ?_⟩⟩
  refine ⟨_, rfl, z, C, b0, b1, b2, b3, rfl, upd_same, kd, fun p H' g e => ?_⟩
  exact q p H' ((same_new hz _).trans g) e
theorem bools_true : ∀ {ys : List V}, (∀ (i : Nat) (v : V), ys[i]? = some v → v = V.bl true) → ∃ bs : List Bool, ys = bs.map V.bl ∧ bs.all id = true
  | [], _ => ⟨[], rfl, rfl⟩
  | y :: ys, h => by
    obtain ⟨bs, e, a⟩ := bools_true (ys := ys) fun i v hi => h (i + 1) v (by simpa using hi)
    exact ⟨true :: bs, by rw [List.map_cons, ← e, h 0 y rfl], by simpa using a⟩
theorem has_law_all (D : Df K mg "_law_all" s_law_all ["_law_ask", "_law_one", "_law_things", "_law_due"]) (T : Txt P w K mg dFoldError dBadFolds dBadCrease dBadSteps dBadTurns dOTHER dQUARTERS dSTEPS a0 a1 a2 a3) (c_law_told : Has P w K mg base "_law_told" 8 ["_law_ask", "_law_one", "_law_other_here"] (sp_ltold P w K mg base 7 dFoldError dBadFolds dBadCrease dBadSteps dBadTurns)) : Has P w K mg base "_law_all" 9 ["_law_ask", "_law_one", "_law_things", "_law_due"] (sp_lall P w K mg base 7 dFoldError dBadFolds dBadCrease dBadSteps dBadTurns) := by
  refine D.has fun f fd F => F.ok sc_law_all (fun vs H Q E h => ?_) (fun cdv A outer s H vs Q E hr h => ?_)
  · obtain ⟨f', x, l, d, ts, C, b0, b1, b2, b3, rfl, _⟩ := h
    rfl
  obtain ⟨f', x, l, d, ts, C, b0, b1, b2, b3, rfl, hl, hn, hd, ask, kd, em, q⟩ := h
  refine ⟨_, (@pss_one _ _ _ (@ps_ret _ _ _ _ (@pe_callB _ _ _ _ _ _ _ _ _ (@call_all _ rfl) rfl T.all_ PyProof.Rows.boot_all (@pa_cons _ _ _ _ _ (@pe_comp _ _ _ _ _ _ _ (["_law_ask", "_law_one", "_law_due"]) ([0, 1, 3]) _ _ rfl (@pi_list _ _ _ _ (@pv _ 2 _ _ rfl (Or.inl rfl) (by decide) (by decide))) (fun cl CC fp ss HH => (@pe_cmpR _ _ _ _ _ _ _ _ (@op_eqBC _ _ _ _ _ _ _ _ hr.units0) (@pe_fn _ _ _ _ _ _ _ _ _ _ _ c_law_told hr rfl (@pa_cons _ _ _ _ _ (@pv _ 1 _ _ (by rfl) (by first | exact Or.inl rfl | exact Or.inr (Or.inl rfl) | exact Or.inr (Or.inr rfl)) (by decide) (by decide)) (@pa_cons _ _ _ _ _ (@pv _ 2 _ _ (by rfl) (by first | exact Or.inl rfl | exact Or.inr (Or.inl rfl) | exact Or.inr (Or.inr rfl)) (by decide) (by decide)) (@pa_cons _ _ _ _ _ (@pv _ 0 _ _ (by rfl) (by first | exact Or.inl rfl | exact Or.inr (Or.inl rfl) | exact Or.inr (Or.inr rfl)) (by decide) (by decide)) (@pa_nil _) (by rfl)) (by rfl)) (by rfl)) (by decide) (by decide) (by rfl) (by rfl)) (@pv _ 3 _ _ (by rfl) (by first | exact Or.inl rfl | exact Or.inr (Or.inl rfl) | exact Or.inr (Or.inr rfl)) (by decide) (by decide)) (nomark _))) (by decide +kernel) rfl rfl (by decide +kernel) (by decide +kernel) rfl (by decide +kernel) rfl (by intro _; rfl)) (@pa_nil _) (by rfl)) (by decide) (by decide) (by rfl) (by rfl)))), ?_⟩
  refine ⟨_, rfl, l, rfl, ⟨_, SqL.of hl⟩, fun p hp => ?_⟩
  refine comp_listS (fun _ v => v = V.bl true) hp hl (by omega) ?_ ?_
  · intro i y H' R hy g k
    refine ⟨_, rfl, _, rfl, _, rfl, f', x, y, C, b0, b1, b2, b3, rfl, ask y (List.mem_of_getElem? hy) H' g, kd, em, fun p1 H1 g1 e1 => ?_⟩
    refine ⟨_, rfl, p1, d, [b0, b1, b2, b3, true], rfl, rfl, SqL.of e1, SqL.of (g1 _ _ (g _ _ hd)), ?_⟩
    exact k _ _ g1 rfl
  · intro ys H1 hl1 hv g1 e1
    obtain ⟨bs, rfl, hb⟩ := bools_true hv
    refine ⟨p, bs, rfl, SqL.of e1, ?_⟩
    rw [hb]
    exact q _ g1
theorem has_is_letters_X (D : Df K mg "is_letters" s_is_letters_X ["value"]) (T : Txt P w K mg dFoldError dBadFolds dBadCrease dBadSteps dBadTurns dOTHER dQUARTERS dSTEPS a0 a1 a2 a3) : Has P w K mg base "is_letters" 1 ["value"] sp_lettersV := by
  refine D.has fun f fd F => F.ok sc_is_letters_X (fun vs H Q E h => ?_) (fun cdv A outer s H vs Q E hr h => ?_)
  · obtain ⟨x, rfl, _⟩ := h
    rfl
  obtain ⟨x, rfl, hx, q⟩ := h
  refine ⟨_, (@pss_one _ _ _ (@ps_ret _ _ _ _ (@pe_and _ _ _ _ _ _ _ (@pe_callB _ _ _ _ _ _ _ _ _ (@call_isinst _) rfl T.isinstance_ PyProof.Rows.boot_isinstance (@pa_cons _ _ _ _ _ (@pv _ 0 _ _ rfl (Or.inl rfl) (by decide) (by decide)) (@pa_cons _ _ _ _ _ (@pe_bltn _ _ (.ty "str") _ _ rfl T.str_ PyProof.Rows.boot_str rfl (by decide) (by decide)) (@pa_nil _) (by rfl)) (by rfl)) (by decide) (by decide) (by rfl) (by rfl)) (@pe_one _ _ _ _ _ (@pe_cmpR _ _ _ _ _ _ _ _ (@op_eq _) (@pe_op _ _ _ _ _ _ _ _ (@op_add _) (@pe_bm _ _ _ _ _ _ _ _ _ _ _ _ PySem.F.plainAttrs_str PySem.F.slot_str_count PySem.F.type_str_count (@mt_count _) (@pv _ 0 _ _ rfl (Or.inl rfl) (by decide) (by decide)) (@pa_cons _ _ _ _ _ (@pe_str _ _ _ _) (@pa_nil _) (by rfl)) (by rfl) (by rfl) (by rfl) (by rfl) (by rfl)) (@pe_bm _ _ _ _ _ _ _ _ _ _ _ _ PySem.F.plainAttrs_str PySem.F.slot_str_count PySem.F.type_str_count (@mt_count _) (@pv _ 0 _ _ rfl (Or.inl rfl) (by decide) (by decide)) (@pa_cons _ _ _ _ _ (@pe_str _ _ _ _) (@pa_nil _) (by rfl)) (by rfl) (by rfl) (by rfl) (by rfl) (by rfl))) (@pe_callB _ _ _ _ _ _ _ _ _ (@call_len_str _) rfl T.len_ PySem.boot_len (@pa_cons _ _ _ _ _ (@pv _ 0 _ _ rfl (Or.inl rfl) (by decide) (by decide)) (@pa_nil _) (by rfl)) (by decide) (by decide) (by rfl) (by rfl)) (nomark _)))))), ?_⟩
  rcases hx with rfl | ⟨i, rfl⟩ | ⟨b, rfl⟩ | ⟨y, rfl, hy⟩ | ⟨p, xs, rfl, e | e⟩
  · exact ⟨_, rfl, _, _, _, false, rfl, .non, T.s_NoneType, _, rfl, iteF q⟩
  · exact ⟨_, rfl, _, _, _, false, rfl, .int _, T.s_int, _, rfl, iteF q⟩
  · exact ⟨_, rfl, _, _, _, false, rfl, .bl _, T.s_bool, _, rfl, iteF q⟩
  · have hl : y.length ≤ 1000 := by rw [← cs_length]; exact hy
    refine ⟨_, rfl, _, _, _, true, rfl, .str _, kit_same _ _, true, rfl, ?_⟩
    refine iteT ?_
    refine ⟨_, rfl, rfl, _, _, rfl, rfl, _, rfl, rfl, _, _, rfl, rfl, _, _, rfl, rfl, _, rfl, _, rfl, small (by omega), rfl, ?_⟩
    rw [letters_eq]
    exact q
  · exact ⟨_, rfl, _, _, _, false, rfl, .lst e, T.s_list, _, rfl, iteF q⟩
  · exact ⟨_, rfl, _, _, _, false, rfl, .tup e, T.s_tuple, _, rfl, iteF q⟩
theorem has_need_folds_X (D : Df K mg "need_folds" s_need_folds_X ["folds"]) (T : Txt P w K mg dFoldError dBadFolds dBadCrease dBadSteps dBadTurns dOTHER dQUARTERS dSTEPS a0 a1 a2 a3) (c_is_letters_X : Has P w K mg base "is_letters" 1 ["value"] sp_lettersV) : HasX P w K mg base "need_folds" 2 ["folds"] (sp_needV isLet dBadFolds) := by
  refine D.hasX fun f fd F => F.okX sc_need_folds_X (fun vs H Q E h => ?_) (fun cdv A outer s H vs Q E hr h => ?_)
  · obtain ⟨x, rfl, _⟩ := h
    rfl
  obtain ⟨x, rfl, hx, q1, q2⟩ := h
  refine ⟨_, (@pss_one _ _ _ (@ps_if _ _ _ _ _ _ _ _ (@pt_not _ _ _ _ (@pt_val _ _ _ (@pe_fn _ _ _ _ _ _ _ _ _ _ _ c_is_letters_X hr rfl (@pa_cons _ _ _ _ _ (@pv _ 0 _ _ rfl (Or.inl rfl) (by decide) (by decide)) (@pa_nil _) (by rfl)) (by decide) (by decide) (by rfl) (by rfl)) (by intro _; rfl))) (@pss_one _ _ _ (@ps_raise _ _ _ _ _ _ _ _ _ _ _ _ _ _ _ _ _ _ _ _ _ _ _ _ _ _ _ _ _ T.BadFolds T.BadFolds_x PySem.F.excBase_ValueError PySem.F.excBase_ValueError.hasBase PySem.F.excBase_ValueError (by rfl) _ (@pe_str _ _ _ _) (by rfl) (by decide))) (@pss_nil _))), ?_⟩
  refine ⟨_, rfl, x, rfl, hx, _, rfl, ?_⟩
  cases h : isLet x with
  | true => exact iteF (q1 h)
  | false => exact iteT (q2 h)
theorem has_steps_X (D : Df K mg "steps" s_steps_X ["folds"]) (T : Txt P w K mg dFoldError dBadFolds dBadCrease dBadSteps dBadTurns dOTHER dQUARTERS dSTEPS a0 a1 a2 a3) (c_need_folds_X : HasX P w K mg base "need_folds" 2 ["folds"] (sp_needV isLet dBadFolds)) : HasX P w K mg base "steps" 3 ["folds"] (sp_stepsV dBadFolds) := by
  refine D.hasX fun f fd F => F.okX sc_steps_X (fun vs H Q E h => ?_) (fun cdv A outer s H vs Q E hr h => ?_)
  · obtain ⟨x, rfl, _⟩ := h
    rfl
  obtain ⟨x, rfl, hx, q1, q2⟩ := h
  refine ⟨_, (@pss_cons _ _ _ _ _ (@ps_expr _ _ _ _ (@pe_fnX _ _ _ _ _ _ _ _ _ _ _ _ c_need_folds_X hr rfl thr_cx (@pa_cons _ _ _ _ _ (@pv _ 0 _ _ rfl (Or.inl rfl) (by decide) (by decide)) (@pa_nil _) (by rfl)) (by decide) (by decide) (by rfl) (by rfl)) (by rfl)) (@pss_one _ _ _ (@ps_ret _ _ _ _ (@pe_op _ _ _ _ _ _ _ _ (@op_shl _) (@pe_int _ _ _ _) (@pe_callB _ _ _ _ _ _ _ _ _ (@call_len_str _) rfl T.len_ PySem.boot_len (@pa_cons _ _ _ _ _ (@pv _ 0 _ _ rfl (Or.inl rfl) (by decide) (by decide)) (@pa_nil _) (by rfl)) (by decide) (by decide) (by rfl) (by rfl)))))), ?_⟩
  refine ⟨_, rfl, x, rfl, hx, fun h => ?_, q2⟩
  obtain ⟨y, rfl, hlr⟩ := isLet_str h
  have hl : y.length ≤ 1000 := by
    rcases hx with z | ⟨i, z⟩ | ⟨b, z⟩ | ⟨y', z, hy⟩ | ⟨p, xs, z, _⟩
    · cases z
    · cases z
    · cases z
    · cases z; rw [← cs_length]; exact hy
    · cases z
  refine ⟨_, rfl, _, rfl, small (by omega), _, _, rfl, rfl, ⟨by omega, by omega, by decide⟩, ?_⟩
  have e := two_pow_cast (cs y).length
  rw [cs_length] at e
  show Q (.int (1 * 2 ^ ((y.length : Int)).toNat)) H
  rw [e, ← cs_length]
  exact q1 y rfl hlr
theorem has_is_whole_X (D : Df K mg "is_whole" s_is_whole_X ["value"]) (T : Txt P w K mg dFoldError dBadFolds dBadCrease dBadSteps dBadTurns dOTHER dQUARTERS dSTEPS a0 a1 a2 a3) : Has P w K mg base "is_whole" 1 ["value"] sp_wholeV := by
  refine D.has fun f fd F => F.ok sc_is_whole_X (fun vs H Q E h => ?_) (fun cdv A outer s H vs Q E hr h => ?_)
  · obtain ⟨x, rfl, _⟩ := h
    rfl
  obtain ⟨x, rfl, hx, q⟩ := h
  refine ⟨_, (@pss_one _ _ _ (@ps_ret _ _ _ _ (@pe_and _ _ _ _ _ _ _ (@pe_callB _ _ _ _ _ _ _ _ _ (@call_isinst _) rfl T.isinstance_ PyProof.Rows.boot_isinstance (@pa_cons _ _ _ _ _ (@pv _ 0 _ _ rfl (Or.inl rfl) (by decide) (by decide)) (@pa_cons _ _ _ _ _ (@pe_bltn _ _ (.ty "int") _ _ rfl T.int_ PyProof.Rows.boot_int rfl (by decide) (by decide)) (@pa_nil _) (by rfl)) (by rfl)) (by decide) (by decide) (by rfl) (by rfl)) (@pe_one _ _ _ _ _ (@pe_not _ _ _ _ (@pe_callB _ _ _ _ _ _ _ _ _ (@call_isinst _) rfl T.isinstance_ PyProof.Rows.boot_isinstance (@pa_cons _ _ _ _ _ (@pv _ 0 _ _ rfl (Or.inl rfl) (by decide) (by decide)) (@pa_cons _ _ _ _ _ (@pe_bltn _ _ (.ty "bool") _ _ rfl T.bool_ PyProof.Rows.boot_bool rfl (by decide) (by decide)) (@pa_nil _) (by rfl)) (by rfl)) (by decide) (by decide) (by rfl) (by rfl))))))), ?_⟩
  rcases hx with rfl | ⟨i, rfl⟩ | ⟨b, rfl⟩ | ⟨y, rfl, hy⟩ | ⟨p, xs, rfl, e | e⟩
  · exact ⟨_, rfl, _, _, _, false, rfl, .non, T.i_NoneType, _, rfl, iteF q⟩
  · refine ⟨_, rfl, _, _, _, true, rfl, .int _, kit_same _ _, true, rfl, ?_⟩
    refine iteT ?_
    exact ⟨_, rfl, _, _, _, false, rfl, .int _, T.ib, false, rfl, q⟩
  · refine ⟨_, rfl, _, _, _, true, rfl, .bl _, T.i_bool, true, rfl, ?_⟩
    refine iteT ?_
    exact ⟨_, rfl, _, _, _, true, rfl, .bl _, kit_same _ _, true, rfl, q⟩
  · exact ⟨_, rfl, _, _, _, false, rfl, .str _, T.i_str, _, rfl, iteF q⟩
  · exact ⟨_, rfl, _, _, _, false, rfl, .lst e, T.i_list, _, rfl, iteF q⟩
  · exact ⟨_, rfl, _, _, _, false, rfl, .tup e, T.i_tuple, _, rfl, iteF q⟩
theorem has_crease_X (D : Df K mg "crease" s_crease_X ["folds", "count"]) (T : Txt P w K mg dFoldError dBadFolds dBadCrease dBadSteps dBadTurns dOTHER dQUARTERS dSTEPS a0 a1 a2 a3) (c_steps_X : HasX P w K mg base "steps" 3 ["folds"] (sp_stepsV dBadFolds)) (c_is_whole_X : Has P w K mg base "is_whole" 1 ["value"] sp_wholeV) : HasX P w K mg base "crease" 4 ["folds", "count"] (sp_door dBadFolds dBadCrease badCr) := by
  refine D.hasX fun f fd F => F.okX sc_crease_X (fun vs H Q E h => ?_) (fun cdv A outer s H vs Q E hr h => ?_)
  · obtain ⟨f', x, rfl, _⟩ := h
    rfl
  obtain ⟨f', x, rfl, hf, hx, q⟩ := h
  refine ⟨_, (@pss_cons _ _ _ _ _ (@ps_set _ _ (2) _ _ _ _ sc_crease_X.nd rfl (Or.inl rfl) (@pe_fnX _ _ _ _ _ _ _ _ _ _ _ _ c_steps_X hr rfl thr_cx (@pa_cons _ _ _ _ _ (@pv _ 0 _ _ rfl (Or.inl rfl) (by decide) (by decide)) (@pa_nil _) (by rfl)) (by decide) (by decide) (by rfl) (by rfl)) (by rfl) (by first | exact .inl rfl | exact .inr rfl | assumption)) (@pss_cons _ _ _ _ _ (@ps_if _ _ _ _ _ _ _ _ (@PW.pt _ _ _ (@pw_or _ _ _ _ _ _ _ (@pt_not _ _ _ _ (@pt_val _ _ _ (@pe_fn _ _ _ _ _ _ _ _ _ _ _ c_is_whole_X hr rfl (@pa_cons _ _ _ _ _ (@pv _ 1 _ _ rfl (Or.inl rfl) (by decide) (by decide)) (@pa_nil _) (by rfl)) (by decide) (by decide) (by rfl) (by rfl)) (by intro _; rfl))) (@pw_or _ _ _ _ _ _ _ (@pt_cmpR _ _ _ _ _ _ _ _ (@op_lt _) (@pv _ 1 _ _ rfl (Or.inl rfl) (by decide) (by decide)) (@pe_int _ _ _ _) (nomark _)) (@pw_or1 _ _ _ _ (@pt_cmpR _ _ _ _ _ _ _ _ (@op_ge _) (@pv _ 1 _ _ rfl (Or.inl rfl) (by decide) (by decide)) (@pv _ 2 _ _ rfl (Or.inl rfl) (by decide) (by decide)) (nomark _)))))) (@pss_one _ _ _ (@ps_raise _ _ _ _ _ _ _ _ _ _ _ _ _ _ _ _ _ _ _ _ _ _ _ _ _ _ _ _ _ T.BadCrease T.BadCrease_x PySem.F.excBase_ValueError PySem.F.excBase_ValueError.hasBase PySem.F.excBase_ValueError (by rfl) _ (@pe_str _ _ _ _) (by rfl) (by decide))) (@pss_nil _)) (@pss_never _ _))), ?_⟩
  rcases q with ⟨h, q⟩ | ⟨y, rfl, hlr, bad, q⟩
  · exact ⟨_, rfl, f', rfl, hf, fun y e l => absurd (lrB_iff.mpr l) (by rw [e] at h; rw [show lrB (cs y) = false from h]; decide), fun _ => q⟩
  refine ⟨_, rfl, _, rfl, hf, fun y' e l => ?_, fun z => absurd (lrB_iff.mpr hlr) (by rw [show lrB (cs y) = false from z]; decide)⟩
  cases e
  refine ⟨_, rfl, x, rfl, hx, _, rfl, ?_⟩
  rcases bad with bad | ⟨i, rfl, bad⟩
  · rw [bad]
    exact iteT q
  refine iteF ?_
  refine ⟨_, rfl, _, _, rfl, rfl, _, rfl, ?_⟩
  refine iteD (fun _ => q) (fun c => ?_)
  refine ⟨_, rfl, _, rfl, _, _, rfl, rfl, _, rfl, ?_⟩
  exact iteY (by omega) q
theorem has_lefts_X (D : Df K mg "lefts" s_lefts_X ["folds", "many"]) (T : Txt P w K mg dFoldError dBadFolds dBadCrease dBadSteps dBadTurns dOTHER dQUARTERS dSTEPS a0 a1 a2 a3) (c_steps_X : HasX P w K mg base "steps" 3 ["folds"] (sp_stepsV dBadFolds)) (c_is_whole_X : Has P w K mg base "is_whole" 1 ["value"] sp_wholeV) : HasX P w K mg base "lefts" 4 ["folds", "many"] (sp_door dBadFolds dBadCrease badLf) := by
  refine D.hasX fun f fd F => F.okX sc_lefts_X (fun vs H Q E h => ?_) (fun cdv A outer s H vs Q E hr h => ?_)
  · obtain ⟨f', x, rfl, _⟩ := h
    rfl
  obtain ⟨f', x, rfl, hf, hx, q⟩ := h
  refine ⟨_, (@pss_cons _ _ _ _ _ (@ps_set _ _ (2) _ _ _ _ sc_lefts_X.nd rfl (Or.inl rfl) (@pe_fnX _ _ _ _ _ _ _ _ _ _ _ _ c_steps_X hr rfl thr_cx (@pa_cons _ _ _ _ _ (@pv _ 0 _ _ rfl (Or.inl rfl) (by decide) (by decide)) (@pa_nil _) (by rfl)) (by decide) (by decide) (by rfl) (by rfl)) (by rfl) (by first | exact .inl rfl | exact .inr rfl | assumption)) (@pss_cons _ _ _ _ _ (@ps_if _ _ _ _ _ _ _ _ (@PW.pt _ _ _ (@pw_or _ _ _ _ _ _ _ (@pt_not _ _ _ _ (@pt_val _ _ _ (@pe_fn _ _ _ _ _ _ _ _ _ _ _ c_is_whole_X hr rfl (@pa_cons _ _ _ _ _ (@pv _ 1 _ _ rfl (Or.inl rfl) (by decide) (by decide)) (@pa_nil _) (by rfl)) (by decide) (by decide) (by rfl) (by rfl)) (by intro _; rfl))) (@pw_or _ _ _ _ _ _ _ (@pt_cmpR _ _ _ _ _ _ _ _ (@op_lt _) (@pv _ 1 _ _ rfl (Or.inl rfl) (by decide) (by decide)) (@pe_int _ _ _ _) (nomark _)) (@pw_or1 _ _ _ _ (@pt_cmpR _ _ _ _ _ _ _ _ (@op_ge _) (@pv _ 1 _ _ rfl (Or.inl rfl) (by decide) (by decide)) (@pv _ 2 _ _ rfl (Or.inl rfl) (by decide) (by decide)) (nomark _)))))) (@pss_one _ _ _ (@ps_raise _ _ _ _ _ _ _ _ _ _ _ _ _ _ _ _ _ _ _ _ _ _ _ _ _ _ _ _ _ T.BadCrease T.BadCrease_x PySem.F.excBase_ValueError PySem.F.excBase_ValueError.hasBase PySem.F.excBase_ValueError (by rfl) _ (@pe_str _ _ _ _) (by rfl) (by decide))) (@pss_nil _)) (@pss_never _ _))), ?_⟩
  rcases q with ⟨h, q⟩ | ⟨y, rfl, hlr, bad, q⟩
  · exact ⟨_, rfl, f', rfl, hf, fun y e l => absurd (lrB_iff.mpr l) (by rw [e] at h; rw [show lrB (cs y) = false from h]; decide), fun _ => q⟩
  refine ⟨_, rfl, _, rfl, hf, fun y' e l => ?_, fun z => absurd (lrB_iff.mpr hlr) (by rw [show lrB (cs y) = false from z]; decide)⟩
  cases e
  refine ⟨_, rfl, x, rfl, hx, _, rfl, ?_⟩
  rcases bad with bad | ⟨i, rfl, bad⟩
  · rw [bad]
    exact iteT q
  refine iteF ?_
  refine ⟨_, rfl, _, _, rfl, rfl, _, rfl, ?_⟩
  refine iteD (fun _ => q) (fun c => ?_)
  refine ⟨_, rfl, _, rfl, _, _, rfl, rfl, _, rfl, ?_⟩
  exact iteY (by omega) q
theorem has_creases_X (D : Df K mg "creases" s_creases_X ["folds", "first", "many"]) (T : Txt P w K mg dFoldError dBadFolds dBadCrease dBadSteps dBadTurns dOTHER dQUARTERS dSTEPS a0 a1 a2 a3) (c_steps_X : HasX P w K mg base "steps" 3 ["folds"] (sp_stepsV dBadFolds)) (c_is_whole_X : Has P w K mg base "is_whole" 1 ["value"] sp_wholeV) : HasX P w K mg base "creases" 4 ["folds", "first", "many"] (sp_door3 dBadFolds dBadCrease) := by
  refine D.hasX fun f fd F => F.okX sc_creases_X (fun vs H Q E h => ?_) (fun cdv A outer s H vs Q E hr h => ?_)
  · obtain ⟨f', x, z, rfl, _⟩ := h
    rfl
  obtain ⟨f', x, z, rfl, hf, hx, hz, q⟩ := h
  refine ⟨_, (@pss_cons _ _ _ _ _ (@ps_set _ _ (3) _ _ _ _ sc_creases_X.nd rfl (Or.inl rfl) (@pe_fnX _ _ _ _ _ _ _ _ _ _ _ _ c_steps_X hr rfl thr_cx (@pa_cons _ _ _ _ _ (@pv _ 0 _ _ rfl (Or.inr (Or.inl rfl)) (by decide) (by decide)) (@pa_nil _) (by rfl)) (by decide) (by decide) (by rfl) (by rfl)) (by rfl) (by first | exact .inl rfl | exact .inr rfl | assumption)) (@pss_cons _ _ _ _ _ (@ps_if _ _ _ _ _ _ _ _ (@PW.pt _ _ _ (@pw_or _ _ _ _ _ _ _ (@pt_not _ _ _ _ (@pt_val _ _ _ (@pe_fn _ _ _ _ _ _ _ _ _ _ _ c_is_whole_X hr rfl (@pa_cons _ _ _ _ _ (@pv _ 1 _ _ rfl (Or.inl rfl) (by decide) (by decide)) (@pa_nil _) (by rfl)) (by decide) (by decide) (by rfl) (by rfl)) (by intro _; rfl))) (@pw_or _ _ _ _ _ _ _ (@pt_not _ _ _ _ (@pt_val _ _ _ (@pe_fn _ _ _ _ _ _ _ _ _ _ _ c_is_whole_X hr rfl (@pa_cons _ _ _ _ _ (@pv _ 2 _ _ rfl (Or.inl rfl) (by decide) (by decide)) (@pa_nil _) (by rfl)) (by decide) (by decide) (by rfl) (by rfl)) (by intro _; rfl))) (@pw_or _ _ _ _ _ _ _ (@pt_cmpR _ _ _ _ _ _ _ _ (@op_lt _) (@pv _ 1 _ _ rfl (Or.inl rfl) (by decide) (by decide)) (@pe_int _ _ _ _) (nomark _)) (@pw_or _ _ _ _ _ _ _ (@pt_cmpR _ _ _ _ _ _ _ _ (@op_lt _) (@pv _ 2 _ _ rfl (Or.inl rfl) (by decide) (by decide)) (@pe_int _ _ _ _) (nomark _)) (@pw_or1 _ _ _ _ (@pt_cmpR _ _ _ _ _ _ _ _ (@op_gt _) (@pe_op _ _ _ _ _ _ _ _ (@op_add _) (@pv _ 1 _ _ rfl (Or.inl rfl) (by decide) (by decide)) (@pv _ 2 _ _ rfl (Or.inl rfl) (by decide) (by decide))) (@pv _ 3 _ _ rfl (Or.inl rfl) (by decide) (by decide)) (nomark _)))))))) (@pss_one _ _ _ (@ps_raise _ _ _ _ _ _ _ _ _ _ _ _ _ _ _ _ _ _ _ _ _ _ _ _ _ _ _ _ _ T.BadCrease T.BadCrease_x PySem.F.excBase_ValueError PySem.F.excBase_ValueError.hasBase PySem.F.excBase_ValueError (by rfl) _ (@pe_str _ _ _ _) (by rfl) (by decide))) (@pss_nil _)) (@pss_never _ _))), ?_⟩
  rcases q with ⟨h, q⟩ | ⟨y, rfl, hlr, bad, q⟩
  · exact ⟨_, rfl, f', rfl, hf, fun y e l => absurd (lrB_iff.mpr l) (by rw [e] at h; rw [show lrB (cs y) = false from h]; decide), fun _ => q⟩
  refine ⟨_, rfl, _, rfl, hf, fun y' e l => ?_, fun z => absurd (lrB_iff.mpr hlr) (by rw [show lrB (cs y) = false from z]; decide)⟩
  cases e
  refine ⟨_, rfl, x, rfl, hx, _, rfl, ?_⟩
  cases h1 : isWh x with
  | false => exact iteT q
  | true =>
  refine iteF ?_
  refine ⟨_, rfl, z, rfl, hz, _, rfl, ?_⟩
  cases h2 : isWh z with
  | false => exact iteT q
  | true =>
  refine iteF ?_
  rcases bad with bad | bad | ⟨i, j, rfl, rfl, bad⟩
  · rw [bad] at h1; cases h1
  · rw [bad] at h2; cases h2
  refine ⟨_, rfl, _, _, rfl, rfl, _, rfl, ?_⟩
  refine iteD (fun _ => q) (fun c => ?_)
  refine ⟨_, rfl, _, _, rfl, rfl, _, rfl, ?_⟩
  refine iteD (fun _ => q) (fun c => ?_)
  refine ⟨_, rfl, _, rfl, _, _, rfl, rfl, _, rfl, _, _, rfl, rfl, _, rfl, ?_⟩
  exact iteY (by omega) q
theorem has_exchanged_X (D : Df K mg "exchanged" s_exchanged_X ["folds"]) (T : Txt P w K mg dFoldError dBadFolds dBadCrease dBadSteps dBadTurns dOTHER dQUARTERS dSTEPS a0 a1 a2 a3) (c_need_folds_X : HasX P w K mg base "need_folds" 2 ["folds"] (sp_needV isLet dBadFolds)) : HasX P w K mg base "exchanged" 3 ["folds"] (sp_door1 dBadFolds) := by
  refine D.hasX fun f fd F => F.okX sc_exchanged_X (fun vs H Q E h => ?_) (fun cdv A outer s H vs Q E hr h => ?_)
  · obtain ⟨f', rfl, _⟩ := h
    rfl
  obtain ⟨f', rfl, hf, h, q⟩ := h
  refine ⟨_, (@pss_cons _ _ _ _ _ (@ps_expr _ _ _ _ (@pe_fnX _ _ _ _ _ _ _ _ _ _ _ _ c_need_folds_X hr rfl thr_cx (@pa_cons _ _ _ _ _ (@pv _ 0 _ _ rfl (Or.inl rfl) (by decide) (by decide)) (@pa_nil _) (by rfl)) (by decide) (by decide) (by rfl) (by rfl)) (by rfl)) (@pss_never _ _)), ?_⟩
  exact ⟨_, rfl, f', rfl, hf, fun z => absurd z (by rw [h]; decide), fun _ => q⟩
theorem has_backwards_X (D : Df K mg "backwards" s_backwards_X ["folds"]) (T : Txt P w K mg dFoldError dBadFolds dBadCrease dBadSteps dBadTurns dOTHER dQUARTERS dSTEPS a0 a1 a2 a3) (c_need_folds_X : HasX P w K mg base "need_folds" 2 ["folds"] (sp_needV isLet dBadFolds)) : HasX P w K mg base "backwards" 3 ["folds"] (sp_door1 dBadFolds) := by
  refine D.hasX fun f fd F => F.okX sc_backwards_X (fun vs H Q E h => ?_) (fun cdv A outer s H vs Q E hr h => ?_)
  · obtain ⟨f', rfl, _⟩ := h
    rfl
  obtain ⟨f', rfl, hf, h, q⟩ := h
  refine ⟨_, (@pss_cons _ _ _ _ _ (@ps_expr _ _ _ _ (@pe_fnX _ _ _ _ _ _ _ _ _ _ _ _ c_need_folds_X hr rfl thr_cx (@pa_cons _ _ _ _ _ (@pv _ 0 _ _ rfl (Or.inl rfl) (by decide) (by decide)) (@pa_nil _) (by rfl)) (by decide) (by decide) (by rfl) (by rfl)) (by rfl)) (@pss_never _ _)), ?_⟩
  exact ⟨_, rfl, f', rfl, hf, fun z => absurd z (by rw [h]; decide), fun _ => q⟩
theorem has_need_many_X (D : Df K mg "need_many" s_need_many_X ["folds", "many"]) (T : Txt P w K mg dFoldError dBadFolds dBadCrease dBadSteps dBadTurns dOTHER dQUARTERS dSTEPS a0 a1 a2 a3) (c_steps_X : HasX P w K mg base "steps" 3 ["folds"] (sp_stepsV dBadFolds)) (c_is_whole_X : Has P w K mg base "is_whole" 1 ["value"] sp_wholeV) : HasX P w K mg base "need_many" 4 ["folds", "many"] (sp_door dBadFolds dBadSteps badSt) := by
  refine D.hasX fun f fd F => F.okX sc_need_many_X (fun vs H Q E h => ?_) (fun cdv A outer s H vs Q E hr h => ?_)
  · obtain ⟨f', x, rfl, _⟩ := h
    rfl
  obtain ⟨f', x, rfl, hf, hx, q⟩ := h
  refine ⟨_, (@pss_cons _ _ _ _ _ (@ps_set _ _ (2) _ _ _ _ sc_need_many_X.nd rfl (Or.inl rfl) (@pe_fnX _ _ _ _ _ _ _ _ _ _ _ _ c_steps_X hr rfl thr_cx (@pa_cons _ _ _ _ _ (@pv _ 0 _ _ rfl (Or.inl rfl) (by decide) (by decide)) (@pa_nil _) (by rfl)) (by decide) (by decide) (by rfl) (by rfl)) (by rfl) (by first | exact .inl rfl | exact .inr rfl | assumption)) (@pss_one _ _ _ (@ps_if _ _ _ _ _ _ _ _ (@PW.pt _ _ _ (@pw_or _ _ _ _ _ _ _ (@pt_not _ _ _ _ (@pt_val _ _ _ (@pe_fn _ _ _ _ _ _ _ _ _ _ _ c_is_whole_X hr rfl (@pa_cons _ _ _ _ _ (@pv _ 1 _ _ rfl (Or.inl rfl) (by decide) (by decide)) (@pa_nil _) (by rfl)) (by decide) (by decide) (by rfl) (by rfl)) (by intro _; rfl))) (@pw_or _ _ _ _ _ _ _ (@pt_cmpR _ _ _ _ _ _ _ _ (@op_lt _) (@pv _ 1 _ _ rfl (Or.inl rfl) (by decide) (by decide)) (@pe_int _ _ _ _) (nomark _)) (@pw_or1 _ _ _ _ (@pt_cmpR _ _ _ _ _ _ _ _ (@op_gt _) (@pv _ 1 _ _ rfl (Or.inl rfl) (by decide) (by decide)) (@pv _ 2 _ _ rfl (Or.inl rfl) (by decide) (by decide)) (nomark _)))))) (@pss_one _ _ _ (@ps_raise _ _ _ _ _ _ _ _ _ _ _ _ _ _ _ _ _ _ _ _ _ _ _ _ _ _ _ _ _ T.BadSteps T.BadSteps_x PySem.F.excBase_ValueError PySem.F.excBase_ValueError.hasBase PySem.F.excBase_ValueError (by rfl) _ (@pe_str _ _ _ _) (by rfl) (by decide))) (@pss_nil _)))), ?_⟩
  rcases q with ⟨h, q⟩ | ⟨y, rfl, hlr, bad, q⟩
  · exact ⟨_, rfl, f', rfl, hf, fun y e l => absurd (lrB_iff.mpr l) (by rw [e] at h; rw [show lrB (cs y) = false from h]; decide), fun _ => q⟩
  refine ⟨_, rfl, _, rfl, hf, fun y' e l => ?_, fun z => absurd (lrB_iff.mpr hlr) (by rw [show lrB (cs y) = false from z]; decide)⟩
  cases e
  refine ⟨_, rfl, x, rfl, hx, _, rfl, ?_⟩
  rcases bad with bad | ⟨i, rfl, bad⟩
  · rw [bad]
    exact iteT q
  refine iteF ?_
  refine ⟨_, rfl, _, _, rfl, rfl, _, rfl, ?_⟩
  refine iteD (fun _ => q) (fun c => ?_)
  refine ⟨_, rfl, _, rfl, _, _, rfl, rfl, _, rfl, ?_⟩
  exact iteY (by omega) q
theorem has_place_X (D : Df K mg "place" s_place_X ["folds", "many"]) (T : Txt P w K mg dFoldError dBadFolds dBadCrease dBadSteps dBadTurns dOTHER dQUARTERS dSTEPS a0 a1 a2 a3) (c_need_many_X : HasX P w K mg base "need_many" 4 ["folds", "many"] (sp_door dBadFolds dBadSteps badSt)) : HasX P w K mg base "place" 5 ["folds", "many"] (sp_door dBadFolds dBadSteps badSt) := by
  refine D.hasX fun f fd F => F.okX sc_place_X (fun vs H Q E h => ?_) (fun cdv A outer s H vs Q E hr h => ?_)
  · obtain ⟨f', x, rfl, _⟩ := h
    rfl
  obtain ⟨f', x, rfl, hf, hx, q⟩ := h
  refine ⟨_, (@pss_cons _ _ _ _ _ (@ps_expr _ _ _ _ (@pe_fnX _ _ _ _ _ _ _ _ _ _ _ _ c_need_many_X hr rfl thr_cx (@pa_cons _ _ _ _ _ (@pv _ 0 _ _ rfl (Or.inl rfl) (by decide) (by decide)) (@pa_cons _ _ _ _ _ (@pv _ 1 _ _ rfl (Or.inl rfl) (by decide) (by decide)) (@pa_nil _) (by rfl)) (by rfl)) (by decide) (by decide) (by rfl) (by rfl)) (by rfl)) (@pss_never _ _)), ?_⟩
  exact ⟨_, rfl, _, rfl, f', x, rfl, hf, hx, q⟩
theorem has_heading_X (D : Df K mg "heading" s_heading_X ["folds", "many"]) (T : Txt P w K mg dFoldError dBadFolds dBadCrease dBadSteps dBadTurns dOTHER dQUARTERS dSTEPS a0 a1 a2 a3) (c_need_many_X : HasX P w K mg base "need_many" 4 ["folds", "many"] (sp_door dBadFolds dBadSteps badSt)) : HasX P w K mg base "heading" 5 ["folds", "many"] (sp_door dBadFolds dBadSteps badSt) := by
  refine D.hasX fun f fd F => F.okX sc_heading_X (fun vs H Q E h => ?_) (fun cdv A outer s H vs Q E hr h => ?_)
  · obtain ⟨f', x, rfl, _⟩ := h
    rfl
  obtain ⟨f', x, rfl, hf, hx, q⟩ := h
  refine ⟨_, (@pss_cons _ _ _ _ _ (@ps_expr _ _ _ _ (@pe_fnX _ _ _ _ _ _ _ _ _ _ _ _ c_need_many_X hr rfl thr_cx (@pa_cons _ _ _ _ _ (@pv _ 0 _ _ rfl (Or.inl rfl) (by decide) (by decide)) (@pa_cons _ _ _ _ _ (@pv _ 1 _ _ rfl (Or.inl rfl) (by decide) (by decide)) (@pa_nil _) (by rfl)) (by rfl)) (by decide) (by decide) (by rfl) (by rfl)) (by rfl)) (@pss_never _ _)), ?_⟩
  exact ⟨_, rfl, _, rfl, f', x, rfl, hf, hx, q⟩
theorem has_law_with_folds (D : Df K mg "_law_with_folds" s_law_with_folds ["_law_door", "_law_folds_here"]) (T : Txt P w K mg dFoldError dBadFolds dBadCrease dBadSteps dBadTurns dOTHER dQUARTERS dSTEPS a0 a1 a2 a3) (c_crease_X : HasX P w K mg base "crease" 4 ["folds", "count"] (sp_door dBadFolds dBadCrease badCr)) (c_lefts_X : HasX P w K mg base "lefts" 4 ["folds", "many"] (sp_door dBadFolds dBadCrease badLf)) (c_creases_X : HasX P w K mg base "creases" 4 ["folds", "first", "many"] (sp_door3 dBadFolds dBadCrease)) (c_steps_X : HasX P w K mg base "steps" 3 ["folds"] (sp_stepsV dBadFolds)) (c_exchanged_X : HasX P w K mg base "exchanged" 3 ["folds"] (sp_door1 dBadFolds)) (c_backwards_X : HasX P w K mg base "backwards" 3 ["folds"] (sp_door1 dBadFolds)) (c_place_X : HasX P w K mg base "place" 5 ["folds", "many"] (sp_door dBadFolds dBadSteps badSt)) (c_heading_X : HasX P w K mg base "heading" 5 ["folds", "many"] (sp_door dBadFolds dBadSteps badSt)) : HasX P w K mg base "_law_with_folds" 6 ["_law_door", "_law_folds_here"] (sp_withF dBadFolds) := by
  refine D.hasX fun f fd F => F.okX sc_law_with_folds (fun vs H Q E h => ?_) (fun cdv A outer s H vs Q E hr h => ?_)
  · obtain ⟨d, f', rfl, _⟩ := h
    rfl
  obtain ⟨d, f', rfl, hf, h, q⟩ := h
  refine ⟨_, (@pss_cons _ _ _ _ _ (@ps_if _ _ _ _ _ _ _ _ (@pt_cmpR _ _ _ _ _ _ _ _ (@op_lt _) (@pv _ 0 _ _ rfl (Or.inl rfl) (by decide) (by decide)) (@pe_int _ _ _ _) (nomark _)) (@pss_one _ _ _ (@ps_ret _ _ _ _ (@pe_ifExp _ _ _ _ _ _ _ _ (@pt_cmpR _ _ _ _ _ _ _ _ (@op_eq _) (@pv _ 0 _ _ rfl (Or.inl rfl) (by decide) (by decide)) (@pe_int _ _ _ _) (nomark _)) (@pe_fnX _ _ _ _ _ _ _ _ _ _ _ _ c_crease_X hr rfl thr_cx (@pa_cons _ _ _ _ _ (@pv _ 1 _ _ rfl (Or.inl rfl) (by decide) (by decide)) (@pa_cons _ _ _ _ _ (@pe_int _ _ _ _) (@pa_nil _) (by rfl)) (by rfl)) (by decide) (by decide) (by rfl) (by rfl)) (@pe_ifExp _ _ _ _ _ _ _ _ (@pt_cmpR _ _ _ _ _ _ _ _ (@op_eq _) (@pv _ 0 _ _ rfl (Or.inl rfl) (by decide) (by decide)) (@pe_int _ _ _ _) (nomark _)) (@pe_fnX _ _ _ _ _ _ _ _ _ _ _ _ c_lefts_X hr rfl thr_cx (@pa_cons _ _ _ _ _ (@pv _ 1 _ _ rfl (Or.inl rfl) (by decide) (by decide)) (@pa_cons _ _ _ _ _ (@pe_non _ _ _) (@pa_nil _) (by rfl)) (by rfl)) (by decide) (by decide) (by rfl) (by rfl)) (@pe_fnX _ _ _ _ _ _ _ _ _ _ _ _ c_creases_X hr rfl thr_cx (@pa_cons _ _ _ _ _ (@pv _ 1 _ _ rfl (Or.inl rfl) (by decide) (by decide)) (@pa_cons _ _ _ _ _ (@pe_int _ _ _ _) (@pa_cons _ _ _ _ _ (@pe_un _ _ _ _ _ _ (@un_neg _) (@pe_int _ _ _ _)) (@pa_nil _) (by rfl)) (by rfl)) (by rfl)) (by decide) (by decide) (by rfl) (by rfl)))))) (@pss_nil _)) (@pss_cons _ _ _ _ _ (@ps_if _ _ _ _ _ _ _ _ (@pt_cmpR _ _ _ _ _ _ _ _ (@op_lt _) (@pv _ 0 _ _ rfl (Or.inl rfl) (by decide) (by decide)) (@pe_int _ _ _ _) (nomark _)) (@pss_one _ _ _ (@ps_ret _ _ _ _ (@pe_ifExp _ _ _ _ _ _ _ _ (@pt_cmpR _ _ _ _ _ _ _ _ (@op_eq _) (@pv _ 0 _ _ rfl (Or.inl rfl) (by decide) (by decide)) (@pe_int _ _ _ _) (nomark _)) (@pe_fnX _ _ _ _ _ _ _ _ _ _ _ _ c_steps_X hr rfl thr_cx (@pa_cons _ _ _ _ _ (@pv _ 1 _ _ rfl (Or.inl rfl) (by decide) (by decide)) (@pa_nil _) (by rfl)) (by decide) (by decide) (by rfl) (by rfl)) (@pe_ifExp _ _ _ _ _ _ _ _ (@pt_cmpR _ _ _ _ _ _ _ _ (@op_eq _) (@pv _ 0 _ _ rfl (Or.inl rfl) (by decide) (by decide)) (@pe_int _ _ _ _) (nomark _)) (@pe_fnX _ _ _ _ _ _ _ _ _ _ _ _ c_exchanged_X hr rfl thr_cx (@pa_cons _ _ _ _ _ (@pv _ 1 _ _ rfl (Or.inl rfl) (by decide) (by decide)) (@pa_nil _) (by rfl)) (by decide) (by decide) (by rfl) (by rfl)) (@pe_fnX _ _ _ _ _ _ _ _ _ _ _ _ c_backwards_X hr rfl thr_cx (@pa_cons _ _ _ _ _ (@pv _ 1 _ _ rfl (Or.inl rfl) (by decide) (by decide)) (@pa_nil _) (by rfl)) (by decide) (by decide) (by rfl) (by rfl)))))) (@pss_nil _)) (@pss_one _ _ _ (@ps_ret _ _ _ _ (@pe_ifExp _ _ _ _ _ _ _ _ (@pt_cmpR _ _ _ _ _ _ _ _ (@op_eq _) (@pv _ 0 _ _ rfl (Or.inl rfl) (by decide) (by decide)) (@pe_int _ _ _ _) (nomark _)) (@pe_fnX _ _ _ _ _ _ _ _ _ _ _ _ c_place_X hr rfl thr_cx (@pa_cons _ _ _ _ _ (@pv _ 1 _ _ rfl (Or.inl rfl) (by decide) (by decide)) (@pa_cons _ _ _ _ _ (@pe_un _ _ _ _ _ _ (@un_neg _) (@pe_int _ _ _ _)) (@pa_nil _) (by rfl)) (by rfl)) (by decide) (by decide) (by rfl) (by rfl)) (@pe_fnX _ _ _ _ _ _ _ _ _ _ _ _ c_heading_X hr rfl thr_cx (@pa_cons _ _ _ _ _ (@pv _ 1 _ _ rfl (Or.inl rfl) (by decide) (by decide)) (@pa_cons _ _ _ _ _ (@pe_non _ _ _) (@pa_nil _) (by rfl)) (by rfl)) (by decide) (by decide) (by rfl) (by rfl))))))), ?_⟩
  have no : ∀ y, f' = .str y → ¬ Lr (cs y) := fun y e l => by
    rw [e] at h
    have h : lrB (cs y) = false := h
    rw [show lrB (cs y) = true from lrB_iff.mpr l] at h
    cases h
  refine ⟨_, rfl, _, _, rfl, rfl, _, rfl, ?_⟩
  refine iteD (fun _ => ?_) (fun _ => ?_)
  · refine ⟨_, rfl, rfl, _, rfl, ?_⟩
    refine iteD (fun _ => ?_) (fun _ => ?_)
    · exact ⟨_, rfl, f', _, rfl, hf, .int _, .inl ⟨h, q⟩⟩
    refine ⟨_, rfl, rfl, _, rfl, ?_⟩
    refine iteD (fun _ => ?_) (fun _ => ?_)
    · exact ⟨_, rfl, f', _, rfl, hf, .non, .inl ⟨h, q⟩⟩
    · exact ⟨_, rfl, _, rfl, f', _, _, rfl, hf, .int _, .int _, .inl ⟨h, q⟩⟩
  refine ⟨_, rfl, _, _, rfl, rfl, _, rfl, ?_⟩
  refine iteD (fun _ => ?_) (fun _ => ?_)
  · refine ⟨_, rfl, rfl, _, rfl, ?_⟩
    refine iteD (fun _ => ?_) (fun _ => ?_)
    · exact ⟨_, rfl, f', rfl, hf, fun y e l => absurd l (no y e), fun _ => q⟩
    refine ⟨_, rfl, rfl, _, rfl, ?_⟩
    refine iteD (fun _ => ?_) (fun _ => ?_)
    · exact ⟨_, rfl, f', rfl, hf, h, q⟩
    · exact ⟨_, rfl, f', rfl, hf, h, q⟩
  · refine ⟨_, rfl, rfl, _, rfl, ?_⟩
    refine iteD (fun _ => ?_) (fun _ => ?_)
    · exact ⟨_, rfl, _, rfl, f', _, rfl, hf, .int _, .inl ⟨h, q⟩⟩
    · exact ⟨_, rfl, f', _, rfl, hf, .non, .inl ⟨h, q⟩⟩
theorem has_law_with_crease (D : Df K mg "_law_with_crease" s_law_with_crease ["_law_folds_here", "_law_count"]) (T : Txt P w K mg dFoldError dBadFolds dBadCrease dBadSteps dBadTurns dOTHER dQUARTERS dSTEPS a0 a1 a2 a3) (c_crease_X : HasX P w K mg base "crease" 4 ["folds", "count"] (sp_door dBadFolds dBadCrease badCr)) : HasX P w K mg base "_law_with_crease" 5 ["_law_folds_here", "_law_count"] (sp_door dBadFolds dBadCrease badCr) := by
  refine D.hasX fun f fd F => F.okX sc_law_with_crease (fun vs H Q E h => ?_) (fun cdv A outer s H vs Q E hr h => ?_)
  · obtain ⟨f', x, rfl, _⟩ := h
    rfl
  obtain ⟨f', x, rfl, hf, hx, q⟩ := h
  refine ⟨_, (@pss_one _ _ _ (@ps_ret _ _ _ _ (@pe_fnX _ _ _ _ _ _ _ _ _ _ _ _ c_crease_X hr rfl thr_cx (@pa_cons _ _ _ _ _ (@pv _ 0 _ _ rfl (Or.inl rfl) (by decide) (by decide)) (@pa_cons _ _ _ _ _ (@pv _ 1 _ _ rfl (Or.inl rfl) (by decide) (by decide)) (@pa_nil _) (by rfl)) (by rfl)) (by decide) (by decide) (by rfl) (by rfl)))), ?_⟩
  exact ⟨_, rfl, _, rfl, f', x, rfl, hf, hx, q⟩
theorem has_law_with_lefts (D : Df K mg "_law_with_lefts" s_law_with_lefts ["_law_folds_here", "_law_count"]) (T : Txt P w K mg dFoldError dBadFolds dBadCrease dBadSteps dBadTurns dOTHER dQUARTERS dSTEPS a0 a1 a2 a3) (c_lefts_X : HasX P w K mg base "lefts" 4 ["folds", "many"] (sp_door dBadFolds dBadCrease badLf)) : HasX P w K mg base "_law_with_lefts" 5 ["_law_folds_here", "_law_count"] (sp_door dBadFolds dBadCrease badLf) := by
  refine D.hasX fun f fd F => F.okX sc_law_with_lefts (fun vs H Q E h => ?_) (fun cdv A outer s H vs Q E hr h => ?_)
  · obtain ⟨f', x, rfl, _⟩ := h
    rfl
  obtain ⟨f', x, rfl, hf, hx, q⟩ := h
  refine ⟨_, (@pss_one _ _ _ (@ps_ret _ _ _ _ (@pe_fnX _ _ _ _ _ _ _ _ _ _ _ _ c_lefts_X hr rfl thr_cx (@pa_cons _ _ _ _ _ (@pv _ 0 _ _ rfl (Or.inl rfl) (by decide) (by decide)) (@pa_cons _ _ _ _ _ (@pv _ 1 _ _ rfl (Or.inl rfl) (by decide) (by decide)) (@pa_nil _) (by rfl)) (by rfl)) (by decide) (by decide) (by rfl) (by rfl)))), ?_⟩
  exact ⟨_, rfl, _, rfl, f', x, rfl, hf, hx, q⟩
theorem has_law_with_steps (D : Df K mg "_law_with_steps" s_law_with_steps ["_law_folds_here", "_law_many"]) (T : Txt P w K mg dFoldError dBadFolds dBadCrease dBadSteps dBadTurns dOTHER dQUARTERS dSTEPS a0 a1 a2 a3) (c_place_X : HasX P w K mg base "place" 5 ["folds", "many"] (sp_door dBadFolds dBadSteps badSt)) : HasX P w K mg base "_law_with_steps" 6 ["_law_folds_here", "_law_many"] (sp_door dBadFolds dBadSteps badSt) := by
  refine D.hasX fun f fd F => F.okX sc_law_with_steps (fun vs H Q E h => ?_) (fun cdv A outer s H vs Q E hr h => ?_)
  · obtain ⟨f', x, rfl, _⟩ := h
    rfl
  obtain ⟨f', x, rfl, hf, hx, q⟩ := h
  refine ⟨_, (@pss_one _ _ _ (@ps_ret _ _ _ _ (@pe_fnX _ _ _ _ _ _ _ _ _ _ _ _ c_place_X hr rfl thr_cx (@pa_cons _ _ _ _ _ (@pv _ 0 _ _ rfl (Or.inl rfl) (by decide) (by decide)) (@pa_cons _ _ _ _ _ (@pv _ 1 _ _ rfl (Or.inl rfl) (by decide) (by decide)) (@pa_nil _) (by rfl)) (by rfl)) (by decide) (by decide) (by rfl) (by rfl)))), ?_⟩
  exact ⟨_, rfl, _, rfl, f', x, rfl, hf, hx, q⟩
theorem has_law_with_heading (D : Df K mg "_law_with_heading" s_law_with_heading ["_law_folds_here", "_law_many"]) (T : Txt P w K mg dFoldError dBadFolds dBadCrease dBadSteps dBadTurns dOTHER dQUARTERS dSTEPS a0 a1 a2 a3) (c_heading_X : HasX P w K mg base "heading" 5 ["folds", "many"] (sp_door dBadFolds dBadSteps badSt)) : HasX P w K mg base "_law_with_heading" 6 ["_law_folds_here", "_law_many"] (sp_door dBadFolds dBadSteps badSt) := by
  refine D.hasX fun f fd F => F.okX sc_law_with_heading (fun vs H Q E h => ?_) (fun cdv A outer s H vs Q E hr h => ?_)
  · obtain ⟨f', x, rfl, _⟩ := h
    rfl
  obtain ⟨f', x, rfl, hf, hx, q⟩ := h
  refine ⟨_, (@pss_one _ _ _ (@ps_ret _ _ _ _ (@pe_fnX _ _ _ _ _ _ _ _ _ _ _ _ c_heading_X hr rfl thr_cx (@pa_cons _ _ _ _ _ (@pv _ 0 _ _ rfl (Or.inl rfl) (by decide) (by decide)) (@pa_cons _ _ _ _ _ (@pv _ 1 _ _ rfl (Or.inl rfl) (by decide) (by decide)) (@pa_nil _) (by rfl)) (by rfl)) (by decide) (by decide) (by rfl) (by rfl)))), ?_⟩
  exact ⟨_, rfl, _, rfl, f', x, rfl, hf, hx, q⟩
theorem has_law_row (D : Df K mg "_law_row" s_law_row ["_law_folds_here", "_law_pair"]) (T : Txt P w K mg dFoldError dBadFolds dBadCrease dBadSteps dBadTurns dOTHER dQUARTERS dSTEPS a0 a1 a2 a3) (c_creases_X : HasX P w K mg base "creases" 4 ["folds", "first", "many"] (sp_door3 dBadFolds dBadCrease)) : HasX P w K mg base "_law_row" 5 ["_law_folds_here", "_law_pair"] (sp_row7 dBadCrease) := by
  refine D.hasX fun f fd F => F.okX sc_law_row (fun vs H Q E h => ?_) (fun cdv A outer s H vs Q E hr h => ?_)
  · obtain ⟨y, p, x, z, rfl, _⟩ := h
    rfl
  obtain ⟨y, p, x, z, rfl, hy, hp, hx, hz, bad, q⟩ := h
  refine ⟨_, (@pss_one _ _ _ (@ps_ret _ _ _ _ (@pe_fnX _ _ _ _ _ _ _ _ _ _ _ _ c_creases_X hr rfl thr_cx (@pa_cons _ _ _ _ _ (@pv _ 0 _ _ rfl (Or.inl rfl) (by decide) (by decide)) (@pa_cons _ _ _ _ _ (@pe_ix _ _ _ _ _ _ _ (@ix_tup _) (@pv _ 1 _ _ rfl (Or.inl rfl) (by decide) (by decide)) (@pe_int _ _ _ _) (fun _ _ => rfl)) (@pa_cons _ _ _ _ _ (@pe_ix _ _ _ _ _ _ _ (@ix_tup _) (@pv _ 1 _ _ rfl (Or.inl rfl) (by decide) (by decide)) (@pe_int _ _ _ _) (fun _ _ => rfl)) (@pa_nil _) (by rfl)) (by rfl)) (by rfl)) (by decide) (by decide) (by rfl) (by rfl)))), ?_⟩
  exact ⟨_, rfl, _, rfl, p, _, _, _, rfl, rfl, SqT.of hp, rfl, _, rfl, p, _, _, _, rfl, rfl, SqT.of hp, rfl, .str y, x, z, rfl, .str hy.few, hx, hz, .inr ⟨y, rfl, hy.lr, bad, q⟩⟩
theorem has_is_turns_X (D : Df K mg "is_turns" s_is_turns_X ["value"]) (T : Txt P w K mg dFoldError dBadFolds dBadCrease dBadSteps dBadTurns dOTHER dQUARTERS dSTEPS a0 a1 a2 a3) (c_is_letters_X : Has P w K mg base "is_letters" 1 ["value"] sp_lettersV) : Has P w K mg base "is_turns" 2 ["value"] sp_turnsV := by
  refine D.has fun f fd F => F.ok sc_is_turns_X (fun vs H Q E h => ?_) (fun cdv A outer s H vs Q E hr h => ?_)
  · obtain ⟨x, rfl, _⟩ := h
    rfl
  obtain ⟨x, rfl, hx, q⟩ := h
  refine ⟨_, (@pss_one _ _ _ (@ps_ret _ _ _ _ (@pe_and _ _ _ _ _ _ _ (@pe_fn _ _ _ _ _ _ _ _ _ _ _ c_is_letters_X hr rfl (@pa_cons _ _ _ _ _ (@pv _ 0 _ _ rfl (Or.inl rfl) (by decide) (by decide)) (@pa_nil _) (by rfl)) (by decide) (by decide) (by rfl) (by rfl)) (@pe_one _ _ _ _ _ (@pe_cmpR _ _ _ _ _ _ _ _ (@op_gt _) (@pe_callB _ _ _ _ _ _ _ _ _ (@call_len_str _) rfl T.len_ PySem.boot_len (@pa_cons _ _ _ _ _ (@pv _ 0 _ _ rfl (Or.inl rfl) (by decide) (by decide)) (@pa_nil _) (by rfl)) (by decide) (by decide) (by rfl) (by rfl)) (@pe_int _ _ _ _) (nomark _)))))), ?_⟩
  refine ⟨_, rfl, x, rfl, hx, _, rfl, ?_⟩
  cases h : isLet x with
  | false =>
    refine iteF ?_
    have z : isTn x = false := by
      cases x with
      | str y => show (lrB (cs y) && _) = false; rw [show lrB (cs y) = false from h]; rfl
      | _ => rfl
    rw [z] at q
    exact q
  | true =>
    refine iteT ?_
    obtain ⟨y, rfl, hlr⟩ := isLet_str h
    have hl : y.length ≤ 1000 := by
      rcases hx with z | ⟨i, z⟩ | ⟨b, z⟩ | ⟨y', z, hy⟩ | ⟨p, xs, z, _⟩
      · cases z
      · cases z
      · cases z
      · cases z; rw [← cs_length]; exact hy
      · cases z
    refine ⟨_, rfl, _, rfl, small (by omega), _, _, rfl, rfl, ?_⟩
    have e : isTn (.str y) = decide ((0 : Int) < (y.length : Int)) := by
      show (lrB (cs y) && decide (0 < (cs y).length)) = _
      rw [lrB_iff.mpr hlr, Bool.true_and, cs_length]
      exact decide_eq_decide.mpr (by omega)
    rw [e] at q
    exact q
theorem has_need_turns_X (D : Df K mg "need_turns" s_need_turns_X ["turns"]) (T : Txt P w K mg dFoldError dBadFolds dBadCrease dBadSteps dBadTurns dOTHER dQUARTERS dSTEPS a0 a1 a2 a3) (c_is_turns_X : Has P w K mg base "is_turns" 2 ["value"] sp_turnsV) : HasX P w K mg base "need_turns" 3 ["turns"] (sp_needV isTn dBadTurns) := by
  refine D.hasX fun f fd F => F.okX sc_need_turns_X (fun vs H Q E h => ?_) (fun cdv A outer s H vs Q E hr h => ?_)
  · obtain ⟨x, rfl, _⟩ := h
    rfl
  obtain ⟨x, rfl, hx, q1, q2⟩ := h
  refine ⟨_, (@pss_one _ _ _ (@ps_if _ _ _ _ _ _ _ _ (@pt_not _ _ _ _ (@pt_truth _ _ _ (@pe_fn _ _ _ _ _ _ _ _ _ _ _ c_is_turns_X hr rfl (@pa_cons _ _ _ _ _ (@pv _ 0 _ _ rfl (Or.inl rfl) (by decide) (by decide)) (@pa_nil _) (by rfl)) (by decide) (by decide) (by rfl) (by rfl)) (fun _ => rfl))) (@pss_one _ _ _ (@ps_raise _ _ _ _ _ _ _ _ _ _ _ _ _ _ _ _ _ _ _ _ _ _ _ _ _ _ _ _ _ T.BadTurns T.BadTurns_x PySem.F.excBase_ValueError PySem.F.excBase_ValueError.hasBase PySem.F.excBase_ValueError (by rfl) _ (@pe_str _ _ _ _) (by rfl) (by decide))) (@pss_nil _))), ?_⟩
  refine ⟨_, rfl, x, rfl, hx, _, rfl, ?_⟩
  cases h : isTn x with
  | true => exact iteF (q1 h)
  | false => exact iteT (q2 h)
theorem has_is_count_X (D : Df K mg "is_count" s_is_count_X ["value"]) (T : Txt P w K mg dFoldError dBadFolds dBadCrease dBadSteps dBadTurns dOTHER dQUARTERS dSTEPS a0 a1 a2 a3) (c_is_whole_X : Has P w K mg base "is_whole" 1 ["value"] sp_wholeV) : Has P w K mg base "is_count" 2 ["value"] sp_countV := by
  refine D.has fun f fd F => F.ok sc_is_count_X (fun vs H Q E h => ?_) (fun cdv A outer s H vs Q E hr h => ?_)
  · obtain ⟨x, rfl, _⟩ := h
    rfl
  obtain ⟨x, rfl, hx, q⟩ := h
  refine ⟨_, (@pss_one _ _ _ (@ps_ret _ _ _ _ (@pe_and _ _ _ _ _ _ _ (@pe_fn _ _ _ _ _ _ _ _ _ _ _ c_is_whole_X hr rfl (@pa_cons _ _ _ _ _ (@pv _ 0 _ _ rfl (Or.inl rfl) (by decide) (by decide)) (@pa_nil _) (by rfl)) (by decide) (by decide) (by rfl) (by rfl)) (@pe_one _ _ _ _ _ (@pe_cmpR _ _ _ _ _ _ _ _ (@op_ge _) (@pv _ 0 _ _ rfl (Or.inl rfl) (by decide) (by decide)) (@pe_int _ _ _ _) (nomark _)))))), ?_⟩
  refine ⟨_, rfl, x, rfl, hx, _, rfl, ?_⟩
  cases h : isWh x with
  | false =>
    refine iteF ?_
    have z : isCn x = false := by
      cases x with
      | int i => cases h
      | _ => rfl
    rw [z] at q
    exact q
  | true =>
    refine iteT ?_
    obtain ⟨i, rfl⟩ := isWh_int h
    exact ⟨_, rfl, _, _, rfl, rfl, q⟩
theorem has_need_count_X (D : Df K mg "need_count" s_need_count_X ["first"]) (T : Txt P w K mg dFoldError dBadFolds dBadCrease dBadSteps dBadTurns dOTHER dQUARTERS dSTEPS a0 a1 a2 a3) (c_is_count_X : Has P w K mg base "is_count" 2 ["value"] sp_countV) : HasX P w K mg base "need_count" 3 ["first"] (sp_needV isCn dBadCrease) := by
  refine D.hasX fun f fd F => F.okX sc_need_count_X (fun vs H Q E h => ?_) (fun cdv A outer s H vs Q E hr h => ?_)
  · obtain ⟨x, rfl, _⟩ := h
    rfl
  obtain ⟨x, rfl, hx, q1, q2⟩ := h
  refine ⟨_, (@pss_one _ _ _ (@ps_if _ _ _ _ _ _ _ _ (@pt_not _ _ _ _ (@pt_truth _ _ _ (@pe_fn _ _ _ _ _ _ _ _ _ _ _ c_is_count_X hr rfl (@pa_cons _ _ _ _ _ (@pv _ 0 _ _ rfl (Or.inl rfl) (by decide) (by decide)) (@pa_nil _) (by rfl)) (by decide) (by decide) (by rfl) (by rfl)) (fun _ => rfl))) (@pss_one _ _ _ (@ps_raise _ _ _ _ _ _ _ _ _ _ _ _ _ _ _ _ _ _ _ _ _ _ _ _ _ _ _ _ _ T.BadCrease T.BadCrease_x PySem.F.excBase_ValueError PySem.F.excBase_ValueError.hasBase PySem.F.excBase_ValueError (by rfl) _ (@pe_str _ _ _ _) (by rfl) (by decide))) (@pss_nil _))), ?_⟩
  refine ⟨_, rfl, x, rfl, hx, _, rfl, ?_⟩
  cases h : isCn x with
  | true => exact iteF (q1 h)
  | false => exact iteT (q2 h)
theorem has_told_X (D : Df K mg "told" s_told_X ["turns", "first"]) (T : Txt P w K mg dFoldError dBadFolds dBadCrease dBadSteps dBadTurns dOTHER dQUARTERS dSTEPS a0 a1 a2 a3) (c_need_turns_X : HasX P w K mg base "need_turns" 3 ["turns"] (sp_needV isTn dBadTurns)) (c_need_count_X : HasX P w K mg base "need_count" 3 ["first"] (sp_needV isCn dBadCrease)) : HasX P w K mg base "told" 4 ["turns", "first"] (sp_toldV dBadTurns dBadCrease) := by
  refine D.hasX fun f fd F => F.okX sc_told_X (fun vs H Q E h => ?_) (fun cdv A outer s H vs Q E hr h => ?_)
  · obtain ⟨f', x, rfl, _⟩ := h
    rfl
  obtain ⟨f', x, rfl, hf, hx, q⟩ := h
  refine ⟨_, (@pss_cons _ _ _ _ _ (@ps_expr _ _ _ _ (@pe_fnX _ _ _ _ _ _ _ _ _ _ _ _ c_need_turns_X hr rfl thr_cx (@pa_cons _ _ _ _ _ (@pv _ 0 _ _ rfl (Or.inl rfl) (by decide) (by decide)) (@pa_nil _) (by rfl)) (by decide) (by decide) (by rfl) (by rfl)) (by rfl)) (@pss_cons _ _ _ _ _ (@ps_expr _ _ _ _ (@pe_fnX _ _ _ _ _ _ _ _ _ _ _ _ c_need_count_X hr rfl thr_cx (@pa_cons _ _ _ _ _ (@pv _ 1 _ _ rfl (Or.inl rfl) (by decide) (by decide)) (@pa_nil _) (by rfl)) (by decide) (by decide) (by rfl) (by rfl)) (by rfl)) (@pss_never _ _))), ?_⟩
  rcases q with ⟨h, q⟩ | ⟨h, h2, q⟩
  · exact ⟨_, rfl, f', rfl, hf, fun z => absurd z (by rw [h]; decide), fun _ => q⟩
  · refine ⟨_, rfl, f', rfl, hf, fun _ => ?_, fun z => absurd z (by rw [h]; decide)⟩
    exact ⟨_, rfl, x, rfl, hx, fun z => absurd z (by rw [h2]; decide), fun _ => q⟩
theorem has_law_with_turns (D : Df K mg "_law_with_turns" s_law_with_turns ["_law_turns", "_law_first"]) (T : Txt P w K mg dFoldError dBadFolds dBadCrease dBadSteps dBadTurns dOTHER dQUARTERS dSTEPS a0 a1 a2 a3) (c_told_X : HasX P w K mg base "told" 4 ["turns", "first"] (sp_toldV dBadTurns dBadCrease)) : HasX P w K mg base "_law_with_turns" 5 ["_law_turns", "_law_first"] (sp_toldV dBadTurns dBadCrease) := by
  refine D.hasX fun f fd F => F.okX sc_law_with_turns (fun vs H Q E h => ?_) (fun cdv A outer s H vs Q E hr h => ?_)
  · obtain ⟨f', x, rfl, _⟩ := h
    rfl
  obtain ⟨f', x, rfl, hf, hx, q⟩ := h
  refine ⟨_, (@pss_one _ _ _ (@ps_ret _ _ _ _ (@pe_fnX _ _ _ _ _ _ _ _ _ _ _ _ c_told_X hr rfl thr_cx (@pa_cons _ _ _ _ _ (@pv _ 0 _ _ rfl (Or.inl rfl) (by decide) (by decide)) (@pa_cons _ _ _ _ _ (@pv _ 1 _ _ rfl (Or.inl rfl) (by decide) (by decide)) (@pa_nil _) (by rfl)) (by rfl)) (by decide) (by decide) (by rfl) (by rfl)))), ?_⟩
  exact ⟨_, rfl, _, rfl, f', x, rfl, hf, hx, q⟩
theorem has_is_letters (D : Df K mg "is_letters" s_is_letters ["value"]) (T : Txt P w K mg dFoldError dBadFolds dBadCrease dBadSteps dBadTurns dOTHER dQUARTERS dSTEPS a0 a1 a2 a3) : Has P w K mg base "is_letters" 1 ["value"] sp_letters := by
  refine D.has fun f fd F => F.ok sc_is_letters (fun vs H Q E h => ?_) (fun cdv A outer s H vs Q E hr h => ?_)
  · obtain ⟨y, rfl, _⟩ := h
    rfl
  obtain ⟨y, rfl, hy, q⟩ := h
  refine ⟨_, (@pss_one _ _ _ (@ps_ret _ _ _ _ (@pe_and _ _ _ _ _ _ _ (@pe_callB _ _ _ _ _ _ _ _ _ (@call_isinst _) rfl T.isinstance_ PyProof.Rows.boot_isinstance (@pa_cons _ _ _ _ _ (@pv _ 0 _ _ rfl (Or.inl rfl) (by decide) (by decide)) (@pa_cons _ _ _ _ _ (@pe_bltn _ _ (.ty "str") _ _ rfl T.str_ PyProof.Rows.boot_str rfl (by decide) (by decide)) (@pa_nil _) (by rfl)) (by rfl)) (by decide) (by decide) (by rfl) (by rfl)) (@pe_one _ _ _ _ _ (@pe_cmpR _ _ _ _ _ _ _ _ (@op_eq _) (@pe_op _ _ _ _ _ _ _ _ (@op_add _) (@pe_bm _ _ _ _ _ _ _ _ _ _ _ _ PySem.F.plainAttrs_str PySem.F.slot_str_count PySem.F.type_str_count (@mt_count _) (@pv _ 0 _ _ rfl (Or.inl rfl) (by decide) (by decide)) (@pa_cons _ _ _ _ _ (@pe_str _ _ _ _) (@pa_nil _) (by rfl)) (by rfl) (by rfl) (by rfl) (by rfl) (by rfl)) (@pe_bm _ _ _ _ _ _ _ _ _ _ _ _ PySem.F.plainAttrs_str PySem.F.slot_str_count PySem.F.type_str_count (@mt_count _) (@pv _ 0 _ _ rfl (Or.inl rfl) (by decide) (by decide)) (@pa_cons _ _ _ _ _ (@pe_str _ _ _ _) (@pa_nil _) (by rfl)) (by rfl) (by rfl) (by rfl) (by rfl) (by rfl))) (@pe_callB _ _ _ _ _ _ _ _ _ (@call_len_str _) rfl T.len_ PySem.boot_len (@pa_cons _ _ _ _ _ (@pv _ 0 _ _ rfl (Or.inl rfl) (by decide) (by decide)) (@pa_nil _) (by rfl)) (by decide) (by decide) (by rfl) (by rfl)) (nomark _)))))), ?_⟩
  refine ⟨_, rfl, _, _, _, true, rfl, .str _, kit_same _ _, true, rfl, ?_⟩
  refine iteT ?_
  refine ⟨_, rfl, rfl, _, _, rfl, rfl, _, rfl, rfl, _, _, rfl, rfl, _, _, rfl, rfl, _, rfl, _, rfl, hy.fit, rfl, ?_⟩
  rw [decide_eq_true (congrArg V.int (count_lr hy.lr))]
  exact q
theorem has_need_folds (D : Df K mg "need_folds" s_need_folds ["folds"]) (T : Txt P w K mg dFoldError dBadFolds dBadCrease dBadSteps dBadTurns dOTHER dQUARTERS dSTEPS a0 a1 a2 a3) (c_is_letters : Has P w K mg base "is_letters" 1 ["value"] sp_letters) : Has P w K mg base "need_folds" 2 ["folds"] sp_need := by
  refine D.has fun f fd F => F.ok sc_need_folds (fun vs H Q E h => ?_) (fun cdv A outer s H vs Q E hr h => ?_)
  · obtain ⟨y, rfl, _⟩ := h
    rfl
  obtain ⟨y, rfl, hy, q⟩ := h
  refine ⟨_, (@pss_one _ _ _ (@ps_if _ _ _ _ _ _ _ _ (@pt_not _ _ _ _ (@pt_val _ _ _ (@pe_fn _ _ _ _ _ _ _ _ _ _ _ c_is_letters hr rfl (@pa_cons _ _ _ _ _ (@pv _ 0 _ _ rfl (Or.inl rfl) (by decide) (by decide)) (@pa_nil _) (by rfl)) (by decide) (by decide) (by rfl) (by rfl)) (by intro _; rfl))) (@pss_one _ _ _ (@ps_never _ _)) (@pss_nil _))), ?_⟩
  refine ⟨_, rfl, y, rfl, hy, true, rfl, ?_⟩
  exact iteF q
theorem has_steps (D : Df K mg "steps" s_steps ["folds"]) (T : Txt P w K mg dFoldError dBadFolds dBadCrease dBadSteps dBadTurns dOTHER dQUARTERS dSTEPS a0 a1 a2 a3) (c_need_folds : Has P w K mg base "need_folds" 2 ["folds"] sp_need) : Has P w K mg base "steps" 3 ["folds"] sp_steps := by
  refine D.has fun f fd F => F.ok sc_steps (fun vs H Q E h => ?_) (fun cdv A outer s H vs Q E hr h => ?_)
  · obtain ⟨y, rfl, _⟩ := h
    rfl
  obtain ⟨y, rfl, hy, q⟩ := h
  refine ⟨_, (@pss_cons _ _ _ _ _ (@ps_expr _ _ _ _ (@pe_fn _ _ _ _ _ _ _ _ _ _ _ c_need_folds hr rfl (@pa_cons _ _ _ _ _ (@pv _ 0 _ _ rfl (Or.inl rfl) (by decide) (by decide)) (@pa_nil _) (by rfl)) (by decide) (by decide) (by rfl) (by rfl)) (by rfl)) (@pss_one _ _ _ (@ps_ret _ _ _ _ (@pe_op _ _ _ _ _ _ _ _ (@op_shl _) (@pe_int _ _ _ _) (@pe_callB _ _ _ _ _ _ _ _ _ (@call_len_str _) rfl T.len_ PySem.boot_len (@pa_cons _ _ _ _ _ (@pv _ 0 _ _ rfl (Or.inl rfl) (by decide) (by decide)) (@pa_nil _) (by rfl)) (by decide) (by decide) (by rfl) (by rfl)))))), ?_⟩
  have hl := hy.len
  refine ⟨_, rfl, y, rfl, hy, _, rfl, _, rfl, hy.fit, _, _, rfl, rfl, ⟨by omega, by omega, by decide⟩, ?_⟩
  have e := two_pow_cast (cs y).length
  rw [cs_length] at e
  show Q (.int (1 * 2 ^ ((y.length : Int)).toNat)) H
  rw [e, ← cs_length]
  exact q
theorem has_is_whole (D : Df K mg "is_whole" s_is_whole ["value"]) (T : Txt P w K mg dFoldError dBadFolds dBadCrease dBadSteps dBadTurns dOTHER dQUARTERS dSTEPS a0 a1 a2 a3) : Has P w K mg base "is_whole" 1 ["value"] sp_whole := by
  refine D.has fun f fd F => F.ok sc_is_whole (fun vs H Q E h => ?_) (fun cdv A outer s H vs Q E hr h => ?_)
  · obtain ⟨i, rfl, _⟩ := h
    rfl
  obtain ⟨i, rfl, q⟩ := h
  refine ⟨_, (@pss_one _ _ _ (@ps_ret _ _ _ _ (@pe_and _ _ _ _ _ _ _ (@pe_callB _ _ _ _ _ _ _ _ _ (@call_isinst _) rfl T.isinstance_ PyProof.Rows.boot_isinstance (@pa_cons _ _ _ _ _ (@pv _ 0 _ _ rfl (Or.inl rfl) (by decide) (by decide)) (@pa_cons _ _ _ _ _ (@pe_bltn _ _ (.ty "int") _ _ rfl T.int_ PyProof.Rows.boot_int rfl (by decide) (by decide)) (@pa_nil _) (by rfl)) (by rfl)) (by decide) (by decide) (by rfl) (by rfl)) (@pe_one _ _ _ _ _ (@pe_not _ _ _ _ (@pe_callB _ _ _ _ _ _ _ _ _ (@call_isinst _) rfl T.isinstance_ PyProof.Rows.boot_isinstance (@pa_cons _ _ _ _ _ (@pv _ 0 _ _ rfl (Or.inl rfl) (by decide) (by decide)) (@pa_cons _ _ _ _ _ (@pe_bltn _ _ (.ty "bool") _ _ rfl T.bool_ PyProof.Rows.boot_bool rfl (by decide) (by decide)) (@pa_nil _) (by rfl)) (by rfl)) (by decide) (by decide) (by rfl) (by rfl))))))), ?_⟩
  refine ⟨_, rfl, _, _, _, true, rfl, .int _, kit_same _ _, true, rfl, ?_⟩
  refine iteT ?_
  exact ⟨_, rfl, _, _, _, false, rfl, .int _, T.ib, false, rfl, q⟩
theorem has_part_of (D : Df K mg "part_of" s_part_of ["count"]) (T : Txt P w K mg dFoldError dBadFolds dBadCrease dBadSteps dBadTurns dOTHER dQUARTERS dSTEPS a0 a1 a2 a3) : Has P w K mg base "part_of" 1 ["count"] sp_part := by
  refine D.has fun f fd F => F.ok sc_part_of (fun vs H Q E h => ?_) (fun cdv A outer s H vs Q E hr h => ?_)
  · obtain ⟨n, rfl, _⟩ := h
    rfl
  obtain ⟨n, rfl, h0, q⟩ := h
  refine ⟨_, (@pss_one _ _ _ (@ps_ret _ _ _ _ (@pe_op _ _ _ _ _ _ _ _ (@op_sub _) (@pe_bm0 _ _ _ _ _ _ _ _ _ PySem.F.plainAttrs_int PySem.F.slot_int_bit_length PySem.F.type_int_bit_length (@mt_bits _) (@pe_op _ _ _ _ _ _ _ _ (@op_and _) (@pv _ 0 _ _ rfl (Or.inl rfl) (by decide) (by decide)) (@pe_un _ _ _ _ _ _ (@un_neg _) (@pv _ 0 _ _ rfl (Or.inl rfl) (by decide) (by decide)))) (by rfl) (by rfl)) (@pe_int _ _ _ _)))), ?_⟩
  refine ⟨_, rfl, _, rfl, _, rfl, _, _, rfl, rfl, rfl, _, rfl, rfl, _, _, rfl, rfl, ?_⟩
  show Q (.int (((Builtin.Int.intBits (Builtin.bitAnd (n : Int) (-(n : Int))) : Nat) : Int) - 1)) H
  rw [part_of h0]
  exact q
theorem has_in_turn (D : Df K mg "in_turn" s_in_turn ["letter", "count"]) (T : Txt P w K mg dFoldError dBadFolds dBadCrease dBadSteps dBadTurns dOTHER dQUARTERS dSTEPS a0 a1 a2 a3) (c_part_of : Has P w K mg base "part_of" 1 ["count"] sp_part) : Has P w K mg base "in_turn" 2 ["letter", "count"] sp_turn := by
  refine D.has fun f fd F => F.ok sc_in_turn (fun vs H Q E h => ?_) (fun cdv A outer s H vs Q E hr h => ?_)
  · obtain ⟨c, n, rfl, _⟩ := h
    rfl
  obtain ⟨c, n, rfl, hc, h0, q⟩ := h
  refine ⟨_, (@pss_cons _ _ _ _ _ (@ps_set _ _ (2) _ _ _ _ sc_in_turn.nd rfl (Or.inl rfl) (@pe_op _ _ _ _ _ _ _ _ (@op_shr _) (@pv _ 1 _ _ rfl (Or.inl rfl) (by decide) (by decide)) (@pe_op _ _ _ _ _ _ _ _ (@op_add _) (@pe_fn _ _ _ _ _ _ _ _ _ _ _ c_part_of hr rfl (@pa_cons _ _ _ _ _ (@pv _ 1 _ _ rfl (Or.inl rfl) (by decide) (by decide)) (@pa_nil _) (by rfl)) (by decide) (by decide) (by rfl) (by rfl)) (@pe_int _ _ _ _))) (by rfl) (by first | exact .inl rfl | exact .inr rfl | assumption)) (@pss_one _ _ _ (@ps_ret _ _ _ _ (@pe_ifExp _ _ _ _ _ _ _ _ (@pt_truth _ _ _ (@pe_op _ _ _ _ _ _ _ _ (@op_and _) (@pv _ 2 _ _ rfl (Or.inl rfl) (by decide) (by decide)) (@pe_int _ _ _ _)) (fun _ => rfl)) (@pe_tab _ _ _ _ _ _ _ _ rfl T.OTHER T.OTHER_tab (@pv _ 0 _ _ rfl (Or.inl rfl) (by decide) (by decide)) (fun _ _ => rfl) (by decide)) (@pv _ 0 _ _ rfl (Or.inl rfl) (by decide) (by decide)))))), ?_⟩
  refine ⟨_, rfl, _, rfl, n, rfl, h0, _, _, rfl, rfl, _, _, rfl, rfl, by omega, ?_⟩
  refine ⟨_, rfl, _, _, rfl, rfl, _, rfl, ?_⟩
  simp only [place_of]
  have ec : trnd c n = if plc n % 2 = 0 then c else oth c := rfl
  rcases (show plc n % 2 = 0 ∨ plc n % 2 = 1 by omega) with hp | hp
  · rw [if_pos hp] at ec
    rw [hp]
    refine iteF ?_
    refine ⟨_, rfl, ?_⟩
    rw [← ec]
    exact q
  · rw [if_neg (by omega)] at ec
    rw [hp]
    refine iteT ?_
    refine ⟨_, rfl, _, ⟨#[oth c]⟩, rfl, ?_, ?_⟩
    · rcases hc with e | e
      · rw [e]; kernel_rfl
      · rw [e]; kernel_rfl
    · rw [← ec]
      exact q
theorem has_way_of (D : Df K mg "way_of" s_way_of ["folds", "count"]) (T : Txt P w K mg dFoldError dBadFolds dBadCrease dBadSteps dBadTurns dOTHER dQUARTERS dSTEPS a0 a1 a2 a3) (c_part_of : Has P w K mg base "part_of" 1 ["count"] sp_part) (c_in_turn : Has P w K mg base "in_turn" 2 ["letter", "count"] sp_turn) : Has P w K mg base "way_of" 3 ["folds", "count"] sp_crease := by
  refine D.has fun f fd F => F.ok sc_way_of (fun vs H Q E h => ?_) (fun cdv A outer s H vs Q E hr h => ?_)
  · obtain ⟨y, n, rfl, _⟩ := h
    rfl
  obtain ⟨y, n, rfl, hy, h0, h1, q⟩ := h
  refine ⟨_, (@pss_one _ _ _ (@ps_ret _ _ _ _ (@pe_fn _ _ _ _ _ _ _ _ _ _ _ c_in_turn hr rfl (@pa_cons _ _ _ _ _ (@pe_ix _ _ _ _ _ _ _ (@ix_str _) (@pv _ 0 _ _ rfl (Or.inl rfl) (by decide) (by decide)) (@pe_fn _ _ _ _ _ _ _ _ _ _ _ c_part_of hr rfl (@pa_cons _ _ _ _ _ (@pv _ 1 _ _ rfl (Or.inl rfl) (by decide) (by decide)) (@pa_nil _) (by rfl)) (by decide) (by decide) (by rfl) (by rfl)) (fun _ _ => rfl)) (@pa_cons _ _ _ _ _ (@pv _ 1 _ _ rfl (Or.inl rfl) (by decide) (by decide)) (@pa_nil _) (by rfl)) (by rfl)) (by decide) (by decide) (by rfl) (by rfl)))), ?_⟩
  have hv := val2_lt h0 h1
  refine ⟨_, rfl, _, rfl, n, rfl, h0, _, _, _, rfl, rfl, hy.fit, at_code hv, _, rfl, _, n, rfl, getD_lr hy.lr hv, h0, ?_⟩
  rw [← crs_trnd]
  exact q
theorem has_creases (D : Df K mg "creases" s_creases ["folds", "first", "many"]) (T : Txt P w K mg dFoldError dBadFolds dBadCrease dBadSteps dBadTurns dOTHER dQUARTERS dSTEPS a0 a1 a2 a3) (c_steps : Has P w K mg base "steps" 3 ["folds"] sp_steps) (c_is_whole : Has P w K mg base "is_whole" 1 ["value"] sp_whole) (c_way_of : Has P w K mg base "way_of" 3 ["folds", "count"] sp_crease) : Has P w K mg base "creases" 4 ["folds", "first", "many"] sp_creases := by
  refine D.has fun f fd F => F.ok sc_creases (fun vs H Q E h => ?_) (fun cdv A outer s H vs Q E hr h => ?_)
  · obtain ⟨y, a, m, rfl, _⟩ := h
    rfl
  obtain ⟨y, a, m, rfl, hy, h0, h1, hm, q⟩ := h
  refine ⟨_, (@pss_cons _ _ _ _ _ (@ps_set _ _ (3) _ _ _ _ sc_creases.nd rfl (Or.inl rfl) (@pe_fn _ _ _ _ _ _ _ _ _ _ _ c_steps hr rfl (@pa_cons _ _ _ _ _ (@pv _ 0 _ _ rfl (Or.inr (Or.inl rfl)) (by decide) (by decide)) (@pa_nil _) (by rfl)) (by decide) (by decide) (by rfl) (by rfl)) (by rfl) (by first | exact .inl rfl | exact .inr rfl | assumption)) (@pss_cons _ _ _ _ _ (@ps_if _ _ _ _ _ _ _ _ (@PW.pt _ _ _ (@pw_or _ _ _ _ _ _ _ (@pt_not _ _ _ _ (@pt_val _ _ _ (@pe_fn _ _ _ _ _ _ _ _ _ _ _ c_is_whole hr rfl (@pa_cons _ _ _ _ _ (@pv _ 1 _ _ rfl (Or.inl rfl) (by decide) (by decide)) (@pa_nil _) (by rfl)) (by decide) (by decide) (by rfl) (by rfl)) (by intro _; rfl))) (@pw_or _ _ _ _ _ _ _ (@pt_not _ _ _ _ (@pt_val _ _ _ (@pe_fn _ _ _ _ _ _ _ _ _ _ _ c_is_whole hr rfl (@pa_cons _ _ _ _ _ (@pv _ 2 _ _ rfl (Or.inl rfl) (by decide) (by decide)) (@pa_nil _) (by rfl)) (by decide) (by decide) (by rfl) (by rfl)) (by intro _; rfl))) (@pw_or _ _ _ _ _ _ _ (@pt_cmpR _ _ _ _ _ _ _ _ (@op_lt _) (@pv _ 1 _ _ rfl (Or.inl rfl) (by decide) (by decide)) (@pe_int _ _ _ _) (nomark _)) (@pw_or _ _ _ _ _ _ _ (@pt_cmpR _ _ _ _ _ _ _ _ (@op_lt _) (@pv _ 2 _ _ rfl (Or.inl rfl) (by decide) (by decide)) (@pe_int _ _ _ _) (nomark _)) (@pw_or1 _ _ _ _ (@pt_cmpR _ _ _ _ _ _ _ _ (@op_gt _) (@pe_op _ _ _ _ _ _ _ _ (@op_add _) (@pv _ 1 _ _ rfl (Or.inl rfl) (by decide) (by decide)) (@pv _ 2 _ _ rfl (Or.inl rfl) (by decide) (by decide))) (@pv _ 3 _ _ rfl (Or.inl rfl) (by decide) (by decide)) (nomark _)))))))) (@pss_one _ _ _ (@ps_never _ _)) (@pss_nil _)) (@pss_one _ _ _ (@ps_ret _ _ _ _ (@pe_bm _ _ _ _ _ _ _ _ _ _ _ _ PySem.F.plainAttrs_str PySem.F.slot_str_join PySem.F.type_str_join (@mt_join _) (@pe_str _ _ _ _) (@pa_cons _ _ _ _ _ (@pe_comp _ _ _ _ _ _ _ (["folds"]) ([0]) _ _ rfl (@pi_rngA2 _ _ _ _ _ _ _ rfl T.range_ (@pa_cons _ _ _ _ _ (@pv _ 1 _ _ rfl (Or.inl rfl) (by decide) (by decide)) (@pa_cons _ _ _ _ _ (@pe_op _ _ _ _ _ _ _ _ (@op_add _) (@pv _ 1 _ _ rfl (Or.inl rfl) (by decide) (by decide)) (@pv _ 2 _ _ rfl (Or.inl rfl) (by decide) (by decide))) (@pa_nil _) (by rfl)) (by rfl)) (by rfl) (by rfl)) (fun cl CC fp ss HH => (@pe_fn _ _ _ _ _ _ _ _ _ _ _ c_way_of hr rfl (@pa_cons _ _ _ _ _ (@pv _ 1 _ _ (by rfl) (by first | exact Or.inl rfl | exact Or.inr (Or.inl rfl) | exact Or.inr (Or.inr rfl)) (by decide) (by decide)) (@pa_cons _ _ _ _ _ (@pv _ 0 _ _ (by rfl) (by first | exact Or.inl rfl | exact Or.inr (Or.inl rfl) | exact Or.inr (Or.inr rfl)) (by decide) (by decide)) (@pa_nil _) (by rfl)) (by rfl)) (by decide) (by decide) (by rfl) (by rfl))) (by decide +kernel) rfl rfl (by decide +kernel) (by decide +kernel) rfl (by decide +kernel) rfl (by intro _; rfl)) (@pa_nil _) (by rfl)) (by rfl) (by rfl) (by rfl) (by rfl) (by rfl)))))), ?_⟩
  have h1' : (a : Int) + (m : Int) ≤ ((2 ^ (cs y).length : Nat) : Int) := Int.ofNat_le.mpr h1
  refine ⟨_, rfl, y, rfl, hy, _, rfl, _, rfl, true, rfl, ?_⟩
  refine iteF ?_
  refine ⟨_, rfl, _, rfl, true, rfl, ?_⟩
  refine iteF ?_
  refine ⟨_, rfl, _, _, rfl, rfl, _, rfl, ?_⟩
  refine iteN (by omega) ?_
  refine ⟨_, rfl, _, _, rfl, rfl, _, rfl, ?_⟩
  refine iteN (by omega) ?_
  refine ⟨_, rfl, _, rfl, _, _, rfl, rfl, _, rfl, _, _, rfl, rfl, _, rfl, ?_⟩
  refine iteN (by omega) ?_
  refine ⟨rfl, _, rfl, _, rfl, _, rfl, _, _, rfl, rfl, _, _, rfl, fun p hp => ?_⟩
  have en : ((a : Int) + (m : Int) - (a : Int)).toNat = m := by omega
  rw [en]
  refine comp_range (fun i ys H2 => H2 = upd H p (.lst ys) ∧ ys = signs (row (cs y) a i)) ⟨rfl, rfl⟩ ?_ ?_ ?_
  · rintro i ys H2 hi ⟨rfl, rfl⟩
    exact ⟨upd_same, by rw [signs_length, row_length]; exact smallT (by omega)⟩
  · rintro i ys H2 hi ⟨rfl, rfl⟩
    refine ⟨_, rfl, _, rfl, y, a + i, rfl, hy, by omega, row_lt h1 hi, upd_same, upd_upd, ?_⟩
    rw [row_succ, signs_snoc]
  · rintro ys H2 ⟨rfl, rfl⟩
    refine ⟨_, p, (row (cs y) a m).map fun c => ⟨#[c]⟩, rfl, rfl, SqL.of upd_same, ?_, ?_⟩
    · rw [one_len, row_length]; omega
    · rw [join_one]
      exact q _ (fun b o e => by rw [upd_ne (ne_of_none e hp)]; exact e)
theorem has_lefts (D : Df K mg "lefts" s_lefts ["folds", "many"]) (T : Txt P w K mg dFoldError dBadFolds dBadCrease dBadSteps dBadTurns dOTHER dQUARTERS dSTEPS a0 a1 a2 a3) (c_steps : Has P w K mg base "steps" 3 ["folds"] sp_steps) (c_is_whole : Has P w K mg base "is_whole" 1 ["value"] sp_whole) : Has P w K mg base "lefts" 4 ["folds", "many"] sp_lefts := by
  refine D.has fun f fd F => F.ok sc_lefts (fun vs H Q E h => ?_) (fun cdv A outer s H vs Q E hr h => ?_)
  · obtain ⟨y, n, rfl, _⟩ := h
    rfl
  obtain ⟨y, n, rfl, hy, h1, q⟩ := h
  refine ⟨_, (@pss_cons _ _ _ _ _ (@ps_set _ _ (2) _ _ _ _ sc_lefts.nd rfl (Or.inl rfl) (@pe_fn _ _ _ _ _ _ _ _ _ _ _ c_steps hr rfl (@pa_cons _ _ _ _ _ (@pv _ 0 _ _ rfl (Or.inl rfl) (by decide) (by decide)) (@pa_nil _) (by rfl)) (by decide) (by decide) (by rfl) (by rfl)) (by rfl) (by first | exact .inl rfl | exact .inr rfl | assumption)) (@pss_cons _ _ _ _ _ (@ps_if _ _ _ _ _ _ _ _ (@PW.pt _ _ _ (@pw_or _ _ _ _ _ _ _ (@pt_not _ _ _ _ (@pt_val _ _ _ (@pe_fn _ _ _ _ _ _ _ _ _ _ _ c_is_whole hr rfl (@pa_cons _ _ _ _ _ (@pv _ 1 _ _ rfl (Or.inl rfl) (by decide) (by decide)) (@pa_nil _) (by rfl)) (by decide) (by decide) (by rfl) (by rfl)) (by intro _; rfl))) (@pw_or _ _ _ _ _ _ _ (@pt_cmpR _ _ _ _ _ _ _ _ (@op_lt _) (@pv _ 1 _ _ rfl (Or.inl rfl) (by decide) (by decide)) (@pe_int _ _ _ _) (nomark _)) (@pw_or1 _ _ _ _ (@pt_cmpR _ _ _ _ _ _ _ _ (@op_ge _) (@pv _ 1 _ _ rfl (Or.inl rfl) (by decide) (by decide)) (@pv _ 2 _ _ rfl (Or.inl rfl) (by decide) (by decide)) (nomark _)))))) (@pss_one _ _ _ (@ps_never _ _)) (@pss_nil _)) (@pss_cons _ _ _ _ _ (@ps_set _ _ (3) _ _ _ _ sc_lefts.nd rfl (Or.inl rfl) (@pe_int _ _ _ _) (by rfl) (by first | exact .inl rfl | exact .inr rfl | assumption)) (@pss_cons _ _ _ _ _ (@ps_set _ _ (4) _ _ _ _ sc_lefts.nd rfl (Or.inl rfl) (@pv _ 1 _ _ rfl (Or.inl rfl) (by decide) (by decide)) (by rfl) (by first | exact .inl rfl | exact .inr rfl | assumption)) (@pss_cons _ _ _ _ _ (@ps_for _ _ _ _ _ _ _ _ PassesOwn.never rfl (@pi_str _ _ _ _ (@pv _ 0 _ _ rfl (Or.inl rfl) (by decide) (by decide))) (@pg_name _ _ (5) _ sc_lefts.nd rfl (Or.inl rfl) (by first | exact .inl rfl | exact .inr rfl | assumption)) (@pss_cons _ _ _ _ _ (@ps_set _ _ (6) _ _ _ _ sc_lefts.nd rfl (Or.inl rfl) (@pe_op _ _ _ _ _ _ _ _ (@op_shr _) (@pe_op _ _ _ _ _ _ _ _ (@op_add _) (@pv _ 4 _ _ rfl (Or.inl rfl) (by decide) (by decide)) (@pe_int _ _ _ _)) (@pe_int _ _ _ _)) (by rfl) (by first | exact .inl rfl | exact .inr rfl | assumption)) (@pss_cons _ _ _ _ _ (@ps_aug _ _ (3) _ _ _ _ _ _ sc_lefts.nd rfl (Or.inl rfl) (@pe_op _ _ _ _ _ _ _ _ (@op_shr _) (@pe_ifExp _ _ _ _ _ _ _ _ (@pt_cmpR _ _ _ _ _ _ _ _ (@op_eq _) (@pv _ 5 _ _ rfl (Or.inl rfl) (by decide) (by decide)) (@pe_str _ _ _ _) (nomark _)) (@pe_op _ _ _ _ _ _ _ _ (@op_add _) (@pv _ 6 _ _ rfl (Or.inl rfl) (by decide) (by decide)) (@pe_int _ _ _ _)) (@pv _ 6 _ _ rfl (Or.inl rfl) (by decide) (by decide))) (@pe_int _ _ _ _)) (@ip_add _) (by first | exact .inl rfl | exact .inr rfl | assumption)) (@pss_one _ _ _ (@ps_set _ _ (4) _ _ _ _ sc_lefts.nd rfl (Or.inl rfl) (@pe_op _ _ _ _ _ _ _ _ (@op_shr _) (@pv _ 4 _ _ rfl (Or.inl rfl) (by decide) (by decide)) (@pe_int _ _ _ _)) (by rfl) (by first | exact .inl rfl | exact .inr rfl | assumption))))) (by intro _; rfl)) (@pss_one _ _ _ (@ps_ret _ _ _ _ (@pv _ 3 _ _ rfl (Or.inl rfl) (by decide) (by decide))))))))), ?_⟩
  have h1' : (n : Int) < ((2 ^ (cs y).length : Nat) : Int) := Int.ofNat_lt.mpr h1
  refine ⟨_, rfl, y, rfl, hy, _, rfl, _, rfl, true, rfl, ?_⟩
  refine iteF ?_
  refine ⟨_, rfl, _, _, rfl, rfl, _, rfl, ?_⟩
  refine iteN (by omega) ?_
  refine ⟨_, rfl, _, rfl, _, _, rfl, rfl, _, rfl, ?_⟩
  refine iteN (by omega) ?_
  refine ⟨_, rfl, _, rfl, y, rfl, for_str (fun i σ H2 => H2 = H ∧ ∃ (t r : Nat) (fo ma : Option V), σ = [some (.str y), some (.int n), some (.int (2 ^ (cs y).length : Nat)), some (.int t), some (.int r), fo, ma] ∧
    t + lft ((cs y).drop i) r = lft (cs y) n) ⟨rfl, 0, n, none, none, rfl, by simp⟩ ?_ ?_⟩
  · rintro i c σ H2 hc ⟨rfl, t, r, fo, ma, rfl, hI⟩
    have hd : (cs y).drop i = c :: (cs y).drop (i + 1) := by
      obtain ⟨hl, hg⟩ := List.getElem?_eq_some_iff.mp hc
      exact (List.drop_eq_getElem_cons hl).trans (by rw [hg]; rfl)
    rw [hd] at hI
    refine ⟨_, rfl, _, _, rfl, rfl, _, _, rfl, rfl, (by show (0 : Int) ≤ 1; decide), _, rfl, _, rfl, rfl, _, rfl, ?_⟩
    refine iteD (fun hl => ?_) (fun hl => ?_)
    · have hc' : c = 108 := by
        have z := V.str.inj hl
        rw [code_l] at z
        exact one_inj.mp z
      refine ⟨_, rfl, _, _, rfl, rfl, _, _, rfl, rfl, (by show (0 : Int) ≤ 1; decide), _, _, rfl, rfl, _, rfl, _, _, rfl, rfl, (by show (0 : Int) ≤ 1; decide), rfl, t + ((r + 1) / 2 + 1) / 2, r / 2, _, _, rfl, ?_⟩
      rw [← hI, hc']
      show _ = t + ((if (108 : Nat) = 108 then (r + 1) / 2 + 1 else (r + 1) / 2) / 2 + lft ((cs y).drop (i + 1)) (r / 2))
      rw [if_pos rfl]
      omega
    · have hc' : ¬ c = 108 := fun z => hl (by rw [z, code_l])
      refine ⟨_, rfl, _, _, rfl, rfl, (by show (0 : Int) ≤ 1; decide), _, _, rfl, rfl, _, rfl, _, _, rfl, rfl, (by show (0 : Int) ≤ 1; decide), rfl, t + ((r + 1) / 2) / 2, r / 2, _, _, rfl, ?_⟩
      rw [← hI]
      show _ = t + ((if c = 108 then (r + 1) / 2 + 1 else (r + 1) / 2) / 2 + lft ((cs y).drop (i + 1)) (r / 2))
      rw [if_neg hc']
      omega
  · rintro σ H2 ⟨rfl, t, r, fo, ma, rfl, hI⟩
    have e : (cs y).drop y.cps.toList.length = [] := List.drop_eq_nil_of_le (Nat.le_refl _)
    rw [e] at hI
    have e2 : t = lft (cs y) n := by simpa [lft] using hI
    refine ⟨_, rfl, ?_⟩
    rw [e2]
    exact q
theorem has_need_many (D : Df K mg "need_many" s_need_many ["folds", "many"]) (T : Txt P w K mg dFoldError dBadFolds dBadCrease dBadSteps dBadTurns dOTHER dQUARTERS dSTEPS a0 a1 a2 a3) (c_steps : Has P w K mg base "steps" 3 ["folds"] sp_steps) (c_is_whole : Has P w K mg base "is_whole" 1 ["value"] sp_whole) : Has P w K mg base "need_many" 4 ["folds", "many"] sp_many := by
  refine D.has fun f fd F => F.ok sc_need_many (fun vs H Q E h => ?_) (fun cdv A outer s H vs Q E hr h => ?_)
  · obtain ⟨y, n, rfl, _⟩ := h
    rfl
  obtain ⟨y, n, rfl, hy, h1, q⟩ := h
  refine ⟨_, (@pss_cons _ _ _ _ _ (@ps_set _ _ (2) _ _ _ _ sc_need_many.nd rfl (Or.inl rfl) (@pe_fn _ _ _ _ _ _ _ _ _ _ _ c_steps hr rfl (@pa_cons _ _ _ _ _ (@pv _ 0 _ _ rfl (Or.inl rfl) (by decide) (by decide)) (@pa_nil _) (by rfl)) (by decide) (by decide) (by rfl) (by rfl)) (by rfl) (by first | exact .inl rfl | exact .inr rfl | assumption)) (@pss_one _ _ _ (@ps_if _ _ _ _ _ _ _ _ (@PW.pt _ _ _ (@pw_or _ _ _ _ _ _ _ (@pt_not _ _ _ _ (@pt_val _ _ _ (@pe_fn _ _ _ _ _ _ _ _ _ _ _ c_is_whole hr rfl (@pa_cons _ _ _ _ _ (@pv _ 1 _ _ rfl (Or.inl rfl) (by decide) (by decide)) (@pa_nil _) (by rfl)) (by decide) (by decide) (by rfl) (by rfl)) (by intro _; rfl))) (@pw_or _ _ _ _ _ _ _ (@pt_cmpR _ _ _ _ _ _ _ _ (@op_lt _) (@pv _ 1 _ _ rfl (Or.inl rfl) (by decide) (by decide)) (@pe_int _ _ _ _) (nomark _)) (@pw_or1 _ _ _ _ (@pt_cmpR _ _ _ _ _ _ _ _ (@op_gt _) (@pv _ 1 _ _ rfl (Or.inl rfl) (by decide) (by decide)) (@pv _ 2 _ _ rfl (Or.inl rfl) (by decide) (by decide)) (nomark _)))))) (@pss_one _ _ _ (@ps_never _ _)) (@pss_nil _)))), ?_⟩
  have h1' : (n : Int) ≤ ((2 ^ (cs y).length : Nat) : Int) := Int.ofNat_le.mpr h1
  refine ⟨_, rfl, y, rfl, hy, _, rfl, _, rfl, true, rfl, ?_⟩
  refine iteF ?_
  refine ⟨_, rfl, _, _, rfl, rfl, _, rfl, ?_⟩
  refine iteN (by omega) ?_
  refine ⟨_, rfl, _, rfl, _, _, rfl, rfl, _, rfl, ?_⟩
  exact iteN (by omega) q
theorem has_with_corners (D : Df K mg "with_corners" s_with_corners ["spot", "quarter"]) (T : Txt P w K mg dFoldError dBadFolds dBadCrease dBadSteps dBadTurns dOTHER dQUARTERS dSTEPS a0 a1 a2 a3) : Has P w K mg base "with_corners" 1 ["spot", "quarter"] sp_corners := by
  refine D.has fun f fd F => F.ok sc_with_corners (fun vs H Q E h => ?_) (fun cdv A outer s H vs Q E hr h => ?_)
  · obtain ⟨a, p, q, rfl, _⟩ := h
    rfl
  obtain ⟨a, p, q, rfl, ha, hq, k⟩ := h
  refine ⟨_, (@pss_one _ _ _ (@ps_ret _ _ _ _ (@pe_tup _ _ _ _ _ (@pa_cons _ _ _ _ _ (@pe_op _ _ _ _ _ _ _ _ (@op_sub _) (@pe_ix _ _ _ _ _ _ _ (@ix_tup _) (@pv _ 0 _ _ rfl (Or.inl rfl) (by decide) (by decide)) (@pe_int _ _ _ _) (fun _ _ => rfl)) (@pe_op _ _ _ _ _ _ _ _ (@op_mul _) (@pv _ 1 _ _ rfl (Or.inl rfl) (by decide) (by decide)) (@pe_ix _ _ _ _ _ _ _ (@ix_tup _) (@pv _ 0 _ _ rfl (Or.inl rfl) (by decide) (by decide)) (@pe_int _ _ _ _) (fun _ _ => rfl)))) (@pa_cons _ _ _ _ _ (@pe_op _ _ _ _ _ _ _ _ (@op_add _) (@pe_ix _ _ _ _ _ _ _ (@ix_tup _) (@pv _ 0 _ _ rfl (Or.inl rfl) (by decide) (by decide)) (@pe_int _ _ _ _) (fun _ _ => rfl)) (@pe_op _ _ _ _ _ _ _ _ (@op_mul _) (@pv _ 1 _ _ rfl (Or.inl rfl) (by decide) (by decide)) (@pe_ix _ _ _ _ _ _ _ (@ix_tup _) (@pv _ 0 _ _ rfl (Or.inl rfl) (by decide) (by decide)) (@pe_int _ _ _ _) (fun _ _ => rfl)))) (@pa_nil _) (by rfl)) (by rfl))))), ?_⟩
  have hc : -(2 ^ 64) < q ∧ q < 2 ^ 64 := by rcases hq with rfl | rfl <;> decide
  refine ⟨_, rfl, a, _, _, _, rfl, rfl, ha.sq, rfl, _, rfl, _, rfl, a, _, _, _, rfl, rfl, ha.sq, rfl, _, _, rfl, rfl, .inl hc, _, _, rfl, rfl, ?_⟩
  refine ⟨_, rfl, a, _, _, _, rfl, rfl, ha.sq, rfl, _, rfl, _, rfl, a, _, _, _, rfl, rfl, ha.sq, rfl, _, _, rfl, rfl, .inl hc, _, _, rfl, rfl, small2, ?_⟩
  exact k.mk
theorem has_one_further (D : Df K mg "one_further" s_one_further ["spot", "quarters"]) (T : Txt P w K mg dFoldError dBadFolds dBadCrease dBadSteps dBadTurns dOTHER dQUARTERS dSTEPS a0 a1 a2 a3) : Has P w K mg base "one_further" 1 ["spot", "quarters"] sp_further := by
  refine D.has fun f fd F => F.ok sc_one_further (fun vs H Q E h => ?_) (fun cdv A outer s H vs Q E hr h => ?_)
  · obtain ⟨a, p, t, h, rfl, _⟩ := h
    rfl
  obtain ⟨a, p, t, h, rfl, ha, ht, k⟩ := h
  refine ⟨_, (@pss_cons _ _ _ _ _ (@ps_set _ _ (2) _ _ _ _ sc_one_further.nd rfl (Or.inl rfl) (@pe_ix _ _ _ _ _ _ _ (@ix_tup _) (@pe_glob _ _ (.ref dSTEPS) _ _ rfl T.STEPS rfl (by decide)) (@pe_op _ _ _ _ _ _ _ _ (@op_mod _) (@pv _ 1 _ _ rfl (Or.inl rfl) (by decide) (by decide)) (@pe_int _ _ _ _)) (fun _ _ => rfl)) (by rfl) (by first | exact .inl rfl | exact .inr rfl | assumption)) (@pss_one _ _ _ (@ps_ret _ _ _ _ (@pe_tup _ _ _ _ _ (@pa_cons _ _ _ _ _ (@pe_op _ _ _ _ _ _ _ _ (@op_add _) (@pe_ix _ _ _ _ _ _ _ (@ix_tup _) (@pv _ 0 _ _ rfl (Or.inl rfl) (by decide) (by decide)) (@pe_int _ _ _ _) (fun _ _ => rfl)) (@pe_ix _ _ _ _ _ _ _ (@ix_tup _) (@pv _ 2 _ _ rfl (Or.inl rfl) (by decide) (by decide)) (@pe_int _ _ _ _) (fun _ _ => rfl))) (@pa_cons _ _ _ _ _ (@pe_op _ _ _ _ _ _ _ _ (@op_add _) (@pe_ix _ _ _ _ _ _ _ (@ix_tup _) (@pv _ 0 _ _ rfl (Or.inl rfl) (by decide) (by decide)) (@pe_int _ _ _ _) (fun _ _ => rfl)) (@pe_ix _ _ _ _ _ _ _ (@ix_tup _) (@pv _ 2 _ _ rfl (Or.inl rfl) (by decide) (by decide)) (@pe_int _ _ _ _) (fun _ _ => rfl))) (@pa_nil _) (by rfl)) (by rfl)))))), ?_⟩
  have hh : h < 4 := by omega
  obtain ⟨b, hb, hd⟩ := dir_at hh (a0 := a0) (a1 := a1) (a2 := a2) (a3 := a3)
  refine ⟨_, rfl, _, _, rfl, rfl, (by show (0 : Int) < 4; decide), dSTEPS, _, _, .ref b, rfl, rfl, T.STEPS_tup.sq _, by rw [ht]; exact hb, ?_⟩
  have hs : SqT K H b [.int (dir h).1, .int (dir h).2] := by
    rcases hd with ⟨rfl, e⟩ | ⟨rfl, e⟩ | ⟨rfl, e⟩ | ⟨rfl, e⟩ <;> rw [e]
    · exact T.st0.sq _
    · exact T.st1.sq _
    · exact T.st2.sq _
    · exact T.st3.sq _
  refine ⟨_, rfl, a, _, _, _, rfl, rfl, ha.sq, rfl, _, rfl, b, _, _, _, rfl, rfl, hs, rfl, _, _, rfl, rfl, ?_⟩
  refine ⟨_, rfl, a, _, _, _, rfl, rfl, ha.sq, rfl, _, rfl, b, _, _, _, rfl, rfl, hs, rfl, _, _, rfl, rfl, small2, ?_⟩
  exact k.mk
theorem has_place (D : Df K mg "place" s_place ["folds", "many"]) (T : Txt P w K mg dFoldError dBadFolds dBadCrease dBadSteps dBadTurns dOTHER dQUARTERS dSTEPS a0 a1 a2 a3) (c_need_many : Has P w K mg base "need_many" 4 ["folds", "many"] sp_many) (c_with_corners : Has P w K mg base "with_corners" 1 ["spot", "quarter"] sp_corners) (c_one_further : Has P w K mg base "one_further" 1 ["spot", "quarters"] sp_further) : Has P w K mg base "place" 5 ["folds", "many"] sp_place := by
  refine D.has fun f fd F => F.ok sc_place (fun vs H Q E h => ?_) (fun cdv A outer s H vs Q E hr h => ?_)
  · obtain ⟨y, n, rfl, _⟩ := h
    rfl
  obtain ⟨y, n, rfl, hy, h1, q⟩ := h
  refine ⟨_, (@pss_cons _ _ _ _ _ (@ps_expr _ _ _ _ (@pe_fn _ _ _ _ _ _ _ _ _ _ _ c_need_many hr rfl (@pa_cons _ _ _ _ _ (@pv _ 0 _ _ rfl (Or.inl rfl) (by decide) (by decide)) (@pa_cons _ _ _ _ _ (@pv _ 1 _ _ rfl (Or.inl rfl) (by decide) (by decide)) (@pa_nil _) (by rfl)) (by rfl)) (by decide) (by decide) (by rfl) (by rfl)) (by rfl)) (@pss_cons _ _ _ _ _ (@ps_set _ _ (2) _ _ _ _ sc_place.nd rfl (Or.inl rfl) (@pe_op _ _ _ _ _ _ _ _ (@op_shr _) (@pv _ 1 _ _ rfl (Or.inl rfl) (by decide) (by decide)) (@pe_callB _ _ _ _ _ _ _ _ _ (@call_len_str _) rfl T.len_ PySem.boot_len (@pa_cons _ _ _ _ _ (@pv _ 0 _ _ rfl (Or.inl rfl) (by decide) (by decide)) (@pa_nil _) (by rfl)) (by decide) (by decide) (by rfl) (by rfl))) (by rfl) (by first | exact .inl rfl | exact .inr rfl | assumption)) (@pss_cons _ _ _ _ _ (@ps_set _ _ (3) _ _ _ _ sc_place.nd rfl (Or.inl rfl) (@pe_tup _ _ _ _ _ (@pa_cons _ _ _ _ _ (@pv _ 2 _ _ rfl (Or.inl rfl) (by decide) (by decide)) (@pa_cons _ _ _ _ _ (@pe_int _ _ _ _) (@pa_nil _) (by rfl)) (by rfl))) (by rfl) (by first | exact .inl rfl | exact .inr rfl | assumption)) (@pss_cons _ _ _ _ _ (@ps_set _ _ (4) _ _ _ _ sc_place.nd rfl (Or.inl rfl) (@pe_int _ _ _ _) (by rfl) (by first | exact .inl rfl | exact .inr rfl | assumption)) (@pss_cons _ _ _ _ _ (@ps_for _ _ _ _ _ _ _ _ PassesOwn.never rfl (@pi_rngD _ _ _ _ _ _ _ _ rfl T.range_ (@pa_cons _ _ _ _ _ (@pe_op _ _ _ _ _ _ _ _ (@op_sub _) (@pe_callB _ _ _ _ _ _ _ _ _ (@call_len_str _) rfl T.len_ PySem.boot_len (@pa_cons _ _ _ _ _ (@pv _ 0 _ _ rfl (Or.inl rfl) (by decide) (by decide)) (@pa_nil _) (by rfl)) (by decide) (by decide) (by rfl) (by rfl)) (@pe_int _ _ _ _)) (@pa_cons _ _ _ _ _ (@pe_un _ _ _ _ _ _ (@un_neg _) (@pe_int _ _ _ _)) (@pa_cons _ _ _ _ _ (@pe_un _ _ _ _ _ _ (@un_neg _) (@pe_int _ _ _ _)) (@pa_nil _) (by rfl)) (by rfl)) (by rfl)) (by rfl) (by rfl)) (@pg_name _ _ (5) _ sc_place.nd rfl (Or.inl rfl) (by first | exact .inl rfl | exact .inr rfl | assumption)) (@pss_cons _ _ _ _ _ (@ps_set _ _ (6) _ _ _ _ sc_place.nd rfl (Or.inl rfl) (@pe_tabI _ _ _ _ _ _ _ _ rfl T.QUARTERS T.QUARTERS_tab (@pe_ix _ _ _ _ _ _ _ (@ix_str _) (@pv _ 0 _ _ rfl (Or.inl rfl) (by decide) (by decide)) (@pv _ 5 _ _ rfl (Or.inl rfl) (by decide) (by decide)) (fun _ _ => rfl)) (fun _ _ => rfl) (by decide)) (by rfl) (by first | exact .inl rfl | exact .inr rfl | assumption)) (@pss_cons _ _ _ _ _ (@ps_set _ _ (7) _ _ _ _ sc_place.nd rfl (Or.inl rfl) (@pe_op _ _ _ _ _ _ _ _ (@op_and _) (@pe_op _ _ _ _ _ _ _ _ (@op_shr _) (@pv _ 1 _ _ rfl (Or.inl rfl) (by decide) (by decide)) (@pv _ 5 _ _ rfl (Or.inl rfl) (by decide) (by decide))) (@pe_int _ _ _ _)) (by rfl) (by first | exact .inl rfl | exact .inr rfl | assumption)) (@pss_cons _ _ _ _ _ (@ps_set _ _ (3) _ _ _ _ sc_place.nd rfl (Or.inl rfl) (@pe_fn _ _ _ _ _ _ _ _ _ _ _ c_with_corners hr rfl (@pa_cons _ _ _ _ _ (@pv _ 3 _ _ rfl (Or.inl rfl) (by decide) (by decide)) (@pa_cons _ _ _ _ _ (@pv _ 6 _ _ rfl (Or.inl rfl) (by decide) (by decide)) (@pa_nil _) (by rfl)) (by rfl)) (by decide) (by decide) (by rfl) (by rfl)) (by rfl) (by first | exact .inl rfl | exact .inr rfl | assumption)) (@pss_cons _ _ _ _ _ (@ps_if _ _ _ _ _ _ _ _ (@pt_cmpR _ _ _ _ _ _ _ _ (@op_eq _) (@pv _ 7 _ _ rfl (Or.inl rfl) (by decide) (by decide)) (@pe_int _ _ _ _) (nomark _)) (@pss_one _ _ _ (@ps_set _ _ (3) _ _ _ _ sc_place.nd rfl (Or.inl rfl) (@pe_fn _ _ _ _ _ _ _ _ _ _ _ c_one_further hr rfl (@pa_cons _ _ _ _ _ (@pv _ 3 _ _ rfl (Or.inl rfl) (by decide) (by decide)) (@pa_cons _ _ _ _ _ (@pe_op _ _ _ _ _ _ _ _ (@op_add _) (@pv _ 4 _ _ rfl (Or.inl rfl) (by decide) (by decide)) (@pe_op _ _ _ _ _ _ _ _ (@op_mul _) (@pv _ 6 _ _ rfl (Or.inl rfl) (by decide) (by decide)) (@pv _ 2 _ _ rfl (Or.inl rfl) (by decide) (by decide)))) (@pa_nil _) (by rfl)) (by rfl)) (by decide) (by decide) (by rfl) (by rfl)) (by rfl) (by first | exact .inl rfl | exact .inr rfl | assumption))) (@pss_nil _)) (@pss_cons _ _ _ _ _ (@ps_aug _ _ (4) _ _ _ _ _ _ sc_place.nd rfl (Or.inl rfl) (@pe_op _ _ _ _ _ _ _ _ (@op_mul _) (@pv _ 6 _ _ rfl (Or.inl rfl) (by decide) (by decide)) (@pe_op _ _ _ _ _ _ _ _ (@op_xor _) (@pv _ 2 _ _ rfl (Or.inl rfl) (by decide) (by decide)) (@pv _ 7 _ _ rfl (Or.inl rfl) (by decide) (by decide)))) (@ip_add _) (by first | exact .inl rfl | exact .inr rfl | assumption)) (@pss_one _ _ _ (@ps_set _ _ (2) _ _ _ _ sc_place.nd rfl (Or.inl rfl) (@pv _ 7 _ _ rfl (Or.inl rfl) (by decide) (by decide)) (by rfl) (by first | exact .inl rfl | exact .inr rfl | assumption)))))))) (by intro _; rfl)) (@pss_one _ _ _ (@ps_ret _ _ _ _ (@pv _ 3 _ _ rfl (Or.inl rfl) (by decide) (by decide))))))))), ?_⟩
  have hl := hy.len
  have ecs := cs_length y
  refine ⟨_, rfl, _, rfl, y, n, rfl, hy, h1, ?_⟩
  refine ⟨_, rfl, _, rfl, _, rfl, hy.fit, _, _, rfl, rfl, (by omega : (0 : Int) ≤ (y.length : Int)), ?_⟩
  refine ⟨_, rfl, small2, fun b hb => ?_⟩
  have ea : (n : Int) / 2 ^ ((y.length : Int)).toNat = ((n / 2 ^ (cs y).length % 2 : Nat) : Int) ∧ pos [] (n / 2 ^ (cs y).length) = (((n / 2 ^ (cs y).length % 2 : Nat) : Int), 0) := by
    have le : n / 2 ^ (cs y).length ≤ 1 := by
      have := Nat.div_le_div_right (c := 2 ^ (cs y).length) h1
      rw [Nat.div_self (Nat.two_pow_pos _)] at this
      exact this
    constructor
    · rw [Int.toNat_natCast, ← ecs, Nat.mod_eq_of_lt (Nat.lt_of_le_of_lt le (by decide))]
      simp
    · generalize n / 2 ^ (cs y).length = m at *
      rcases (show m = 0 ∨ m = 1 by omega) with e | e <;> rw [e] <;> rfl
  generalize hg : upd H b _ = H1
  have g1 := same_of hb hg
  have e1 := at_of hg
  refine ⟨_, rfl, _, rfl, hy.fit, _, _, rfl, rfl, _, rfl, _, rfl, _, _, rfl, ⟨by omega, by omega, by decide, by decide⟩, ?_⟩
  refine for_down (fun i σ H2 => Same H H2 ∧ ∃ (b : Addr) (t : Int) (x1 x2 x3 : Option V), σ = [some (.str y), some (.int n), some (.int (n / 2 ^ ((cs y).length - i) % 2 : Nat)), some (.ref b), some (.int t), x1, x2, x3] ∧
    At2 H2 b (pos ((cs y).drop ((cs y).length - i)) (n / 2 ^ ((cs y).length - i))) ∧ (n < 2 ^ (cs y).length → t % 4 = hdg ((cs y).drop ((cs y).length - i)) (n / 2 ^ ((cs y).length - i))))
    ⟨g1, b, 0, none, none, none, ?_, ?_, ?_⟩ ?_ ?_
  · rw [Nat.sub_zero, ← ea.1]
    rfl
  · rw [Nat.sub_zero, List.drop_eq_nil_of_le (Nat.le_refl _), ea.2, ← ea.1]
    exact e1
  · intro hlt
    rw [Nat.sub_zero, List.drop_eq_nil_of_le (Nat.le_refl _), Nat.div_eq_of_lt hlt]
    rfl
  · rintro i σ H2 hi ⟨g2, b2, t, x1, x2, x3, rfl, e2, ht⟩
    have hi' : i < (cs y).length := by omega
    obtain ⟨j, hj⟩ : ∃ j, (cs y).length - i = j + 1 := ⟨(cs y).length - i - 1, by omega⟩
    have hjL : j < (cs y).length := by omega
    have hj2 : (cs y).length - (i + 1) = j := by omega
    rw [hj] at e2 ht
    have ej : (y.length : Int) - 1 - (i : Int) = (j : Int) := by omega
    have hc := getD_lr hy.lr hjL
    have hd := drop_at hjL
    have hb := bit_split n j
    rw [hj, hj2, hd]
    generalize hk : n / 2 ^ (j + 1) = k at *
    generalize ho : n / 2 ^ j % 2 = o at *
    have ho2 : o < 2 := by omega
    rw [hb]
    generalize hcc : (cs y).getD j 0 = c at *
    have eo : Builtin.bitAnd ((n : Int) / 2 ^ (j : Int).toNat) 1 = (o : Int) := by
      rw [PyProof.Rows.bitAnd_m1, Int.toNat_natCast, ← ho]
      simp
    have hq : -(2 ^ 64) < qt c ∧ qt c < 2 ^ 64 := by rcases qt_or c with z | z <;> rw [z] <;> decide
    simp only [ej]
    refine ⟨_, rfl, _, rfl, _, _, _, rfl, rfl, hy.fit, (by have := at_code hjL; rw [hcc] at this; exact this), _, qt c, rfl, quarter_of (P := P) (w := w) hc, ?_⟩
    refine ⟨_, rfl, _, rfl, _, _, rfl, rfl, (by omega : (0 : Int) ≤ (j : Int)), _, _, rfl, rfl, ?_⟩
    simp only [eo]
    refine ⟨_, rfl, _, rfl, b2, _, _, rfl, e2, qt_or c, fun b3 H3 g3 e3 => ?_⟩
    have p0 := pos_bit0 (g := (cs y).drop (j + 1)) (k := k) hc
    refine ⟨_, rfl, rfl, _, rfl, ?_⟩
    have ex := xor_bits (a := k % 2) (b := o) (by omega) ho2
    have fin : ∀ (b4 : Addr) (H4 : Hp), Same H H4 → At2 H4 b4 (pos (c :: (cs y).drop (j + 1)) (2 * k + o)) → _ :=
      fun b4 H4 g4 e4 => (⟨g4, b4, t + qt c * ((xr (k % 2) o : Nat) : Int), _, _, _, rfl, e4, fun hlt => hdg_bit hc ho2 (ht hlt)⟩ :
        Same H H4 ∧ ∃ (b : Addr) (t' : Int) (x1 x2 x3 : Option V), [some (V.str y), some (.int n), some (.int (o : Int)), some (.ref b4), some (.int (t + qt c * ((xr (k % 2) o : Nat) : Int))), some (.int (j : Int)), some (.int (qt c)), some (.int (o : Int))] =
          [some (V.str y), some (.int n), some (.int (o : Nat)), some (.ref b), some (.int t'), x1, x2, x3] ∧ At2 H4 b (pos (c :: (cs y).drop (j + 1)) (2 * k + o)) ∧ (n < 2 ^ (cs y).length → t' % 4 = hdg (c :: (cs y).drop (j + 1)) (2 * k + o)))
    refine iteD (fun e => ?_) (fun e => ?_)
    · have eo1 : o = 1 := by
        have z := V.int.inj e
        omega
      have hlt := bit_below h1 hjL (by rw [ho]; exact eo1)
      refine ⟨_, rfl, _, rfl, _, rfl, _, rfl, _, _, rfl, rfl, .inl hq, _, _, rfl, rfl, b3, _, _, hdg (c :: (cs y).drop (j + 1)) (2 * k), rfl, e3, hdg_mid hc (ht hlt), fun b4 H4 g4 e4 => ?_⟩
      refine ⟨_, rfl, _, rfl, _, rfl, _, rfl, _, _, rfl, rfl, _, _, rfl, rfl, .inl hq, ?_⟩
      simp only [ex]
      refine ⟨_, _, rfl, rfl, _, rfl, fin b4 H4 ((g2.trans g3).trans g4) ?_⟩
      subst eo1
      rw [show pos (c :: (cs y).drop (j + 1)) (2 * k + 1) = ((pos (c :: (cs y).drop (j + 1)) (2 * k)).1 + (dir (hdg (c :: (cs y).drop (j + 1)) (2 * k))).1, (pos (c :: (cs y).drop (j + 1)) (2 * k)).2 + (dir (hdg (c :: (cs y).drop (j + 1)) (2 * k))).2) from rfl, p0]
      exact e4
    · have eo0 : o = 0 := by
        rcases (show o = 0 ∨ o = 1 by omega) with z | z
        · exact z
        · exact absurd (by rw [z]; rfl) e
      refine ⟨_, rfl, _, rfl, _, rfl, _, rfl, _, _, rfl, rfl, _, _, rfl, rfl, .inl hq, ?_⟩
      simp only [ex]
      refine ⟨_, _, rfl, rfl, _, rfl, fin b3 H3 (g2.trans g3) ?_⟩
      subst eo0
      rw [show 2 * k + 0 = 2 * k from rfl, p0]
      exact e3
  · rintro σ H2 ⟨g2, b2, t, x1, x2, x3, rfl, e2, ht⟩
    have z : ((y.length : Int) - 1 - -1).toNat = (cs y).length := by omega
    rw [z, Nat.sub_self, List.drop_zero, Nat.pow_zero, Nat.div_one] at e2
    exact ⟨_, rfl, q b2 H2 g2 e2⟩
theorem dec_k (i : Nat) (c : Int) (n : Nat) (h : c = n) : decide (V.int (0 + (i : Int)) = V.int c) = decide (i = n) := decide_eq_decide.mpr ⟨fun z => by have := V.int.inj z; omega, fun z => congrArg V.int (by omega)⟩
theorem bad_text {y : PySem.Str} {c : Nat} (h : c ∈ cs y) (h1 : c ≠ 108) (h2 : c ≠ 114) : lrB (cs y) = false := lrB_no fun z => (z c h).elim h1 h2
theorem app_len (a b : PySem.Str) : (a ++ b).length = a.length + b.length := by rw [← cs_length, cs_app, List.length_append, cs_length, cs_length]
theorem len_x : (PySem.Str.ofString "x").length = 1 := by decide +kernel
theorem len_R : (PySem.Str.ofString "R").length = 1 := by decide +kernel
theorem len_l : (PySem.Str.ofString "l").length = 1 := by decide +kernel
def five4 (i : Nat) : List V := five (decide (i = 0)) (decide (i = 1)) (decide (i = 2)) (decide (i = 3))
theorem four {ds : List Addr} (h : ds.length = 4) : ∃ d0 d1 d2 d3, ds = [d0, d1, d2, d3] := by
  match ds, h with
  | [d0, d1, d2, d3], _ => exact ⟨d0, d1, d2, d3, rfl⟩
theorem isTn_of {x : V} (h : isLet x = false) : isTn x = false := by
  cases x with
  | str y => show (lrB (cs y) && _) = false; rw [show lrB (cs y) = false from h]; rfl
  | _ => rfl
theorem cs_e : cs (PySem.Str.ofString "") = [] := by decide +kernel
theorem fo_e : Fo (PySem.Str.ofString "") := ⟨fun c hc => by rw [cs_e] at hc; simp at hc, by rw [cs_e]; decide⟩
theorem cs_l1 : cs (PySem.Str.ofString "l") = [108] := by decide +kernel
theorem bools_true' : ∀ {ys : List V}, (∀ (i : Nat) (v : V), ys[i]? = some v → v = V.bl true) → ∃ bs : List Bool, ys = bs.map V.bl ∧ bs.all id = true
  | [], _ => ⟨[], rfl, rfl⟩
  | y :: ys, h => by
    obtain ⟨bs, e, a⟩ := bools_true' (ys := ys) fun i v hi => h (i + 1) v (by simpa using hi)
    exact ⟨true :: bs, by rw [List.map_cons, ← e, h 0 y rfl], by simpa using a⟩
/-- no number, or one below -/
def Low (x : V) : Prop := isWh x = false ∨ ∃ i : Int, x = .int i ∧ i < 0
theorem Low.cr {x : V} {L : Nat} (h : Low x) : badCr L x := h.imp id fun ⟨i, e, k⟩ => ⟨i, e, .inl (by omega)⟩
theorem Low.lf {x : V} {L : Nat} (h : Low x) : badLf L x := h.imp id fun ⟨i, e, k⟩ => ⟨i, e, .inl k⟩
theorem Low.st {x : V} {L : Nat} (h : Low x) : badSt L x := h.imp id fun ⟨i, e, k⟩ => ⟨i, e, .inl k⟩
theorem ok_law {f : Addr} {fd : FuncData} (F : Fun K "law" "law" s_law f fd) (T : Txt P w K mg dFoldError dBadFolds dBadCrease dBadSteps dBadTurns dOTHER dQUARTERS dSTEPS a0 a1 a2 a3) (c_law_cell_at : Has P w K mg base "_law_cell_at" 1 ["_law_script", "_law_k"] (sp_cell K)) (c_law_folds : Has P w K mg base "_law_folds" 2 ["_law_script", "_law_by"] (sp_folds K)) (c_law_draw : Has P w K mg base "_law_draw" 1 ["_law_cell", "_law_k", "_law_many"] sp_draw) (c_law_all : Has P w K mg base "_law_all" 9 ["_law_ask", "_law_one", "_law_things", "_law_due"] (sp_lall P w K mg base 7 dFoldError dBadFolds dBadCrease dBadSteps dBadTurns)) (c_law_told : Has P w K mg base "_law_told" 8 ["_law_ask", "_law_one", "_law_other_here"] (sp_ltold P w K mg base 7 dFoldError dBadFolds dBadCrease dBadSteps dBadTurns)) (c_law_with_folds : HasX P w K mg base "_law_with_folds" 6 ["_law_door", "_law_folds_here"] (sp_withF dBadFolds)) (c_law_with_crease : HasX P w K mg base "_law_with_crease" 5 ["_law_folds_here", "_law_count"] (sp_door dBadFolds dBadCrease badCr)) (c_law_with_lefts : HasX P w K mg base "_law_with_lefts" 5 ["_law_folds_here", "_law_count"] (sp_door dBadFolds dBadCrease badLf)) (c_law_with_steps : HasX P w K mg base "_law_with_steps" 6 ["_law_folds_here", "_law_many"] (sp_door dBadFolds dBadSteps badSt)) (c_law_with_heading : HasX P w K mg base "_law_with_heading" 6 ["_law_folds_here", "_law_many"] (sp_door dBadFolds dBadSteps badSt)) (c_law_row : HasX P w K mg base "_law_row" 5 ["_law_folds_here", "_law_pair"] (sp_row7 dBadCrease)) (c_law_with_turns : HasX P w K mg base "_law_with_turns" 5 ["_law_turns", "_law_first"] (sp_toldV dBadTurns dBadCrease)) (c_creases : Has P w K mg base "creases" 4 ["folds", "first", "many"] sp_creases) (c_lefts : Has P w K mg base "lefts" 4 ["folds", "many"] sp_lefts) (c_place : Has P w K mg base "place" 5 ["folds", "many"] sp_place) : FnOk P w K mg base CX0 10 f fd ["_law_script"] (sp_law K) := by
  refine F.ok sc_law (fun vs H Q E h => ?_) (fun cdv A outer s H vs Q E hr h => ?_)
  · obtain ⟨a, ns, rfl, _⟩ := h
    rfl
  obtain ⟨a, ns, rfl, hS, h63, q⟩ := h
  obtain ⟨f_law_with_folds, fd_law_with_folds, F_law_with_folds, b_law_with_folds, m_law_with_folds, kp_law_with_folds⟩ := c_law_with_folds
  obtain ⟨f_law_with_crease, fd_law_with_crease, F_law_with_crease, b_law_with_crease, m_law_with_crease, kp_law_with_crease⟩ := c_law_with_crease
  obtain ⟨f_law_with_lefts, fd_law_with_lefts, F_law_with_lefts, b_law_with_lefts, m_law_with_lefts, kp_law_with_lefts⟩ := c_law_with_lefts
  obtain ⟨f_law_with_steps, fd_law_with_steps, F_law_with_steps, b_law_with_steps, m_law_with_steps, kp_law_with_steps⟩ := c_law_with_steps
  obtain ⟨f_law_with_heading, fd_law_with_heading, F_law_with_heading, b_law_with_heading, m_law_with_heading, kp_law_with_heading⟩ := c_law_with_heading
  obtain ⟨f_law_row, fd_law_row, F_law_row, b_law_row, m_law_row, kp_law_row⟩ := c_law_row
  obtain ⟨f_law_with_turns, fd_law_with_turns, F_law_with_turns, b_law_with_turns, m_law_with_turns, kp_law_with_turns⟩ := c_law_with_turns
  refine ⟨_, (@pss_cons _ _ _ _ _ (@ps_set _ _ (1) _ _ _ _ sc_law.nd rfl (Or.inl rfl) (@pe_op _ _ _ _ _ _ _ _ (@op_mod _) (@pe_fn _ _ _ _ _ _ _ _ _ _ _ c_law_cell_at hr rfl (@pa_cons _ _ _ _ _ (@pv _ 0 _ _ rfl (Or.inl rfl) (by decide) (by decide)) (@pa_cons _ _ _ _ _ (@pe_int _ _ _ _) (@pa_nil _) (by rfl)) (by rfl)) (by decide) (by decide) (by rfl) (by rfl)) (@pe_op _ _ _ _ _ _ _ _ (@op_pow _) (@pe_int _ _ _ _) (@pe_int _ _ _ _))) (by rfl) (by first | exact .inl rfl | exact .inr rfl | assumption)) (@pss_cons _ _ _ _ _ (@ps_set _ _ (2) _ _ _ _ sc_law.nd rfl (Or.inr rfl) (@pe_lst _ _ _ _ (@pa_nil _)) (by rfl) (by first | exact .inl rfl | exact .inr rfl | assumption)) (@pss_cons _ _ _ _ _ (@ps_for _ _ _ _ _ _ _ _ PassesOwn.never rfl (@pi_rngA1 _ _ _ _ _ _ rfl T.range_ (@pa_cons _ _ _ _ _ (@pe_int _ _ _ _) (@pa_nil _) (by rfl)) (by rfl)) (@pg_name _ _ (3) _ sc_law.nd rfl (Or.inl rfl) (by first | exact .inl rfl | exact .inr rfl | assumption)) (@pss_one _ _ _ (@ps_expr _ _ _ _ (@pe_bm _ _ _ _ _ _ _ _ _ _ _ _ PySem.F.plainAttrs_list PySem.F.slot_list_append PySem.F.type_list_append (@mt_append _) (@pv _ 2 _ _ rfl (Or.inr (Or.inl rfl)) (by decide) (by decide)) (@pa_cons _ _ _ _ _ (@pe_lst _ _ _ _ (@pa_cons _ _ _ _ _ (@pe_cmpR _ _ _ _ _ _ _ _ (@op_eq _) (@pv _ 3 _ _ rfl (Or.inl rfl) (by decide) (by decide)) (@pe_int _ _ _ _) (nomark _)) (@pa_cons _ _ _ _ _ (@pe_cmpR _ _ _ _ _ _ _ _ (@op_eq _) (@pv _ 3 _ _ rfl (Or.inl rfl) (by decide) (by decide)) (@pe_int _ _ _ _) (nomark _)) (@pa_cons _ _ _ _ _ (@pe_cmpR _ _ _ _ _ _ _ _ (@op_eq _) (@pv _ 3 _ _ rfl (Or.inl rfl) (by decide) (by decide)) (@pe_int _ _ _ _) (nomark _)) (@pa_cons _ _ _ _ _ (@pe_cmpR _ _ _ _ _ _ _ _ (@op_eq _) (@pv _ 3 _ _ rfl (Or.inl rfl) (by decide) (by decide)) (@pe_int _ _ _ _) (nomark _)) (@pa_cons _ _ _ _ _ (@pe_bl _ _ _ _) (@pa_nil _) (by rfl)) (by rfl)) (by rfl)) (by rfl)) (by rfl))) (@pa_nil _) (by rfl)) (by rfl) (by rfl) (by rfl) (by rfl) (by rfl)) (by rfl))) (by intro _; rfl)) (@pss_cons _ _ _ _ _ (@ps_set _ _ (4) _ _ _ _ sc_law.nd rfl (Or.inl rfl) (@pe_fn _ _ _ _ _ _ _ _ _ _ _ c_law_folds hr rfl (@pa_cons _ _ _ _ _ (@pv _ 0 _ _ rfl (Or.inl rfl) (by decide) (by decide)) (@pa_cons _ _ _ _ _ (@pe_int _ _ _ _) (@pa_nil _) (by rfl)) (by rfl)) (by decide) (by decide) (by rfl) (by rfl)) (by rfl) (by first | exact .inl rfl | exact .inr rfl | assumption)) (@pss_cons _ _ _ _ _ (@ps_par _ _ (5) (6) _ _ _ _ _ _ _ _ _ _ _ rfl sc_law.nd rfl rfl (by decide) rfl rfl (@pa_cons _ _ _ _ _ (@pe_op _ _ _ _ _ _ _ _ (@op_shl _) (@pe_int _ _ _ _) (@pe_callB _ _ _ _ _ _ _ _ _ (@call_len_str _) rfl T.len_ PySem.boot_len (@pa_cons _ _ _ _ _ (@pv _ 4 _ _ rfl (Or.inl rfl) (by decide) (by decide)) (@pa_nil _) (by rfl)) (by decide) (by decide) (by rfl) (by rfl))) (@pa_cons _ _ _ _ _ (@pe_fn _ _ _ _ _ _ _ _ _ _ _ c_law_draw hr rfl (@pa_cons _ _ _ _ _ (@pe_fn _ _ _ _ _ _ _ _ _ _ _ c_law_cell_at hr rfl (@pa_cons _ _ _ _ _ (@pv _ 0 _ _ rfl (Or.inl rfl) (by decide) (by decide)) (@pa_cons _ _ _ _ _ (@pe_int _ _ _ _) (@pa_nil _) (by rfl)) (by rfl)) (by decide) (by decide) (by rfl) (by rfl)) (@pa_cons _ _ _ _ _ (@pe_int _ _ _ _) (@pa_cons _ _ _ _ _ (@pe_op _ _ _ _ _ _ _ _ (@op_add _) (@pe_callB _ _ _ _ _ _ _ _ _ (@call_len_str _) rfl T.len_ PySem.boot_len (@pa_cons _ _ _ _ _ (@pv _ 4 _ _ rfl (Or.inl rfl) (by decide) (by decide)) (@pa_nil _) (by rfl)) (by decide) (by decide) (by rfl) (by rfl)) (@pe_int _ _ _ _)) (@pa_nil _) (by rfl)) (by rfl)) (by rfl)) (by decide) (by decide) (by rfl) (by rfl)) (@pa_nil _) (by rfl)) (by rfl)) (by rfl) (by rfl)) (@pss_cons _ _ _ _ _ (@ps_set _ _ (7) _ _ _ _ sc_law.nd rfl (Or.inl rfl) (@pe_lst _ _ _ _ (@pa_cons _ _ _ _ _ (@pe_non _ _ _) (@pa_cons _ _ _ _ _ (@pe_int _ _ _ _) (@pa_cons _ _ _ _ _ (@pe_lst _ _ _ _ (@pa_cons _ _ _ _ _ (@pe_str _ _ _ _) (@pa_nil _) (by rfl))) (@pa_cons _ _ _ _ _ (@pe_tup _ _ _ _ _ (@pa_cons _ _ _ _ _ (@pe_str _ _ _ _) (@pa_nil _) (by rfl))) (@pa_cons _ _ _ _ _ (@pe_str _ _ _ _) (@pa_cons _ _ _ _ _ (@pe_str _ _ _ _) (@pa_cons _ _ _ _ _ (@pe_str _ _ _ _) (@pa_cons _ _ _ _ _ (@pe_str _ _ _ _) (@pa_cons _ _ _ _ _ (@pe_str _ _ _ _) (@pa_cons _ _ _ _ _ (@pe_bl _ _ _ _) (@pa_cons _ _ _ _ _ (@pe_op _ _ _ _ _ _ _ _ (@op_add_str _) (@pe_op _ _ _ _ _ _ _ _ (@op_add_str _) (@pe_slice _ _ _ _ _ _ _ _ _ _ (@sl_str _) (@pv _ 4 _ _ rfl (Or.inl rfl) (by decide) (by decide)) (@po_none _) (@po_some _ _ _ (@pv _ 6 _ _ rfl (Or.inl rfl) (by decide) (by decide)))) (@pe_str _ _ _ _)) (@pe_slice _ _ _ _ _ _ _ _ _ _ (@sl_str _) (@pv _ 4 _ _ rfl (Or.inl rfl) (by decide) (by decide)) (@po_some _ _ _ (@pv _ 6 _ _ rfl (Or.inl rfl) (by decide) (by decide))) (@po_none _))) (@pa_cons _ _ _ _ _ (@pe_op _ _ _ _ _ _ _ _ (@op_add_str _) (@pv _ 4 _ _ rfl (Or.inl rfl) (by decide) (by decide)) (@pe_str _ _ _ _)) (@pa_nil _) (by rfl)) (by rfl)) (by rfl)) (by rfl)) (by rfl)) (by rfl)) (by rfl)) (by rfl)) (by rfl)) (by rfl)) (by rfl)) (by rfl))) (by rfl) (by first | exact .inl rfl | exact .inr rfl | assumption)) (@pss_cons _ _ _ _ _ (@ps_for _ _ _ _ _ _ _ _ PassesOwn.never rfl (@pi_rngA1 _ _ _ _ _ _ rfl T.range_ (@pa_cons _ _ _ _ _ (@pe_int _ _ _ _) (@pa_nil _) (by rfl)) (by rfl)) (@pg_name _ _ (8) _ sc_law.nd rfl (Or.inl rfl) (by first | exact .inl rfl | exact .inr rfl | assumption)) (@pss_one _ _ _ (@ps_if _ _ _ _ _ _ _ _ (@pt_not _ _ _ _ (@pt_val _ _ _ (@pe_fn _ _ _ _ _ _ _ _ _ _ _ c_law_all hr rfl (@pa_cons _ _ _ _ _ (@pe_glob _ _ (.ref f_law_with_folds) _ _ rfl m_law_with_folds rfl (by decide)) (@pa_cons _ _ _ _ _ (@pv _ 8 _ _ rfl (Or.inl rfl) (by decide) (by decide)) (@pa_cons _ _ _ _ _ (@pv _ 7 _ _ rfl (Or.inl rfl) (by decide) (by decide)) (@pa_cons _ _ _ _ _ (@pe_ix _ _ _ _ _ _ _ (@ix_list _) (@pv _ 2 _ _ rfl (Or.inr (Or.inl rfl)) (by decide) (by decide)) (@pe_int _ _ _ _) (fun _ _ => rfl)) (@pa_nil _) (by rfl)) (by rfl)) (by rfl)) (by rfl)) (by decide) (by decide) (by rfl) (by rfl)) (by intro _; rfl))) (@pss_one _ _ _ (@ps_ret _ _ _ _ (@pe_bl _ _ _ _))) (@pss_nil _))) (by intro _; rfl)) (@pss_cons _ _ _ _ _ (@ps_set _ _ (9) _ _ _ _ sc_law.nd rfl (Or.inl rfl) (@pe_lst _ _ _ _ (@pa_cons _ _ _ _ _ (@pe_non _ _ _) (@pa_cons _ _ _ _ _ (@pe_str _ _ _ _) (@pa_cons _ _ _ _ _ (@pe_bl _ _ _ _) (@pa_cons _ _ _ _ _ (@pe_lst _ _ _ _ (@pa_cons _ _ _ _ _ (@pe_int _ _ _ _) (@pa_nil _) (by rfl))) (@pa_cons _ _ _ _ _ (@pe_un _ _ _ _ _ _ (@un_neg _) (@pe_int _ _ _ _)) (@pa_cons _ _ _ _ _ (@pe_op _ _ _ _ _ _ _ _ (@op_sub _) (@pe_un _ _ _ _ _ _ (@un_neg _) (@pe_int _ _ _ _)) (@pv _ 1 _ _ rfl (Or.inl rfl) (by decide) (by decide))) (@pa_nil _) (by rfl)) (by rfl)) (by rfl)) (by rfl)) (by rfl)) (by rfl))) (by rfl) (by first | exact .inl rfl | exact .inr rfl | assumption)) (@pss_cons _ _ _ _ _ (@ps_if _ _ _ _ _ _ _ _ (@pt_not _ _ _ _ (@pt_val _ _ _ (@pe_fn _ _ _ _ _ _ _ _ _ _ _ c_law_all hr rfl (@pa_cons _ _ _ _ _ (@pe_glob _ _ (.ref f_law_with_crease) _ _ rfl m_law_with_crease rfl (by decide)) (@pa_cons _ _ _ _ _ (@pv _ 4 _ _ rfl (Or.inl rfl) (by decide) (by decide)) (@pa_cons _ _ _ _ _ (@pe_op _ _ _ _ _ _ _ _ (@op_cat _) (@pv _ 9 _ _ rfl (Or.inl rfl) (by decide) (by decide)) (@pe_lst _ _ _ _ (@pa_cons _ _ _ _ _ (@pe_int _ _ _ _) (@pa_cons _ _ _ _ _ (@pv _ 5 _ _ rfl (Or.inl rfl) (by decide) (by decide)) (@pa_cons _ _ _ _ _ (@pe_op _ _ _ _ _ _ _ _ (@op_add _) (@pv _ 5 _ _ rfl (Or.inl rfl) (by decide) (by decide)) (@pv _ 1 _ _ rfl (Or.inl rfl) (by decide) (by decide))) (@pa_nil _) (by rfl)) (by rfl)) (by rfl)))) (@pa_cons _ _ _ _ _ (@pe_ix _ _ _ _ _ _ _ (@ix_list _) (@pv _ 2 _ _ rfl (Or.inr (Or.inl rfl)) (by decide) (by decide)) (@pe_int _ _ _ _) (fun _ _ => rfl)) (@pa_nil _) (by rfl)) (by rfl)) (by rfl)) (by rfl)) (by decide) (by decide) (by rfl) (by rfl)) (by intro _; rfl))) (@pss_one _ _ _ (@ps_ret _ _ _ _ (@pe_bl _ _ _ _))) (@pss_nil _)) (@pss_cons _ _ _ _ _ (@ps_if _ _ _ _ _ _ _ _ (@pt_not _ _ _ _ (@pt_val _ _ _ (@pe_fn _ _ _ _ _ _ _ _ _ _ _ c_law_all hr rfl (@pa_cons _ _ _ _ _ (@pe_glob _ _ (.ref f_law_with_lefts) _ _ rfl m_law_with_lefts rfl (by decide)) (@pa_cons _ _ _ _ _ (@pv _ 4 _ _ rfl (Or.inl rfl) (by decide) (by decide)) (@pa_cons _ _ _ _ _ (@pe_op _ _ _ _ _ _ _ _ (@op_cat _) (@pv _ 9 _ _ rfl (Or.inl rfl) (by decide) (by decide)) (@pe_lst _ _ _ _ (@pa_cons _ _ _ _ _ (@pv _ 5 _ _ rfl (Or.inl rfl) (by decide) (by decide)) (@pa_cons _ _ _ _ _ (@pe_op _ _ _ _ _ _ _ _ (@op_add _) (@pv _ 5 _ _ rfl (Or.inl rfl) (by decide) (by decide)) (@pv _ 1 _ _ rfl (Or.inl rfl) (by decide) (by decide))) (@pa_nil _) (by rfl)) (by rfl)))) (@pa_cons _ _ _ _ _ (@pe_ix _ _ _ _ _ _ _ (@ix_list _) (@pv _ 2 _ _ rfl (Or.inr (Or.inl rfl)) (by decide) (by decide)) (@pe_int _ _ _ _) (fun _ _ => rfl)) (@pa_nil _) (by rfl)) (by rfl)) (by rfl)) (by rfl)) (by decide) (by decide) (by rfl) (by rfl)) (by intro _; rfl))) (@pss_one _ _ _ (@ps_ret _ _ _ _ (@pe_bl _ _ _ _))) (@pss_nil _)) (@pss_cons _ _ _ _ _ (@ps_for _ _ _ _ _ _ _ _ PassesOwn.never rfl (@pi_tup _ _ _ _ (@pe_tup _ _ _ _ _ (@pa_cons _ _ _ _ _ (@pe_int _ _ _ _) (@pa_cons _ _ _ _ _ (@pe_int _ _ _ _) (@pa_nil _) (by rfl)) (by rfl)))) (@pg_name _ _ (10) _ sc_law.nd rfl (Or.inl rfl) (by first | exact .inl rfl | exact .inr rfl | assumption)) (@pss_cons _ _ _ _ _ (@ps_set _ _ (11) _ _ _ _ sc_law.nd rfl (Or.inl rfl) (@pe_op _ _ _ _ _ _ _ _ (@op_cat _) (@pv _ 9 _ _ rfl (Or.inl rfl) (by decide) (by decide)) (@pe_lst _ _ _ _ (@pa_cons _ _ _ _ _ (@pe_op _ _ _ _ _ _ _ _ (@op_add _) (@pv _ 5 _ _ rfl (Or.inl rfl) (by decide) (by decide)) (@pe_int _ _ _ _)) (@pa_cons _ _ _ _ _ (@pe_op _ _ _ _ _ _ _ _ (@op_add _) (@pe_op _ _ _ _ _ _ _ _ (@op_add _) (@pv _ 5 _ _ rfl (Or.inl rfl) (by decide) (by decide)) (@pe_int _ _ _ _)) (@pv _ 1 _ _ rfl (Or.inl rfl) (by decide) (by decide))) (@pa_nil _) (by rfl)) (by rfl)))) (by rfl) (by first | exact .inl rfl | exact .inr rfl | assumption)) (@pss_cons _ _ _ _ _ (@ps_if _ _ _ _ _ _ _ _ (@PW.pt _ _ _ (@pw_and _ _ _ _ _ _ _ (@pt_cmpR _ _ _ _ _ _ _ _ (@op_eq _) (@pv _ 10 _ _ rfl (Or.inl rfl) (by decide) (by decide)) (@pe_int _ _ _ _) (nomark _)) (@pw_and1 _ _ _ _ (@pt_not _ _ _ _ (@pt_val _ _ _ (@pe_fn _ _ _ _ _ _ _ _ _ _ _ c_law_all hr rfl (@pa_cons _ _ _ _ _ (@pe_glob _ _ (.ref f_law_with_steps) _ _ rfl m_law_with_steps rfl (by decide)) (@pa_cons _ _ _ _ _ (@pv _ 4 _ _ rfl (Or.inl rfl) (by decide) (by decide)) (@pa_cons _ _ _ _ _ (@pv _ 11 _ _ rfl (Or.inl rfl) (by decide) (by decide)) (@pa_cons _ _ _ _ _ (@pe_ix _ _ _ _ _ _ _ (@ix_list _) (@pv _ 2 _ _ rfl (Or.inr (Or.inl rfl)) (by decide) (by decide)) (@pe_int _ _ _ _) (fun _ _ => rfl)) (@pa_nil _) (by rfl)) (by rfl)) (by rfl)) (by rfl)) (by decide) (by decide) (by rfl) (by rfl)) (by intro _; rfl)))))) (@pss_one _ _ _ (@ps_ret _ _ _ _ (@pe_bl _ _ _ _))) (@pss_nil _)) (@pss_one _ _ _ (@ps_if _ _ _ _ _ _ _ _ (@PW.pt _ _ _ (@pw_and _ _ _ _ _ _ _ (@pt_cmpR _ _ _ _ _ _ _ _ (@op_eq _) (@pv _ 10 _ _ rfl (Or.inl rfl) (by decide) (by decide)) (@pe_int _ _ _ _) (nomark _)) (@pw_and1 _ _ _ _ (@pt_not _ _ _ _ (@pt_val _ _ _ (@pe_fn _ _ _ _ _ _ _ _ _ _ _ c_law_all hr rfl (@pa_cons _ _ _ _ _ (@pe_glob _ _ (.ref f_law_with_heading) _ _ rfl m_law_with_heading rfl (by decide)) (@pa_cons _ _ _ _ _ (@pv _ 4 _ _ rfl (Or.inl rfl) (by decide) (by decide)) (@pa_cons _ _ _ _ _ (@pv _ 11 _ _ rfl (Or.inl rfl) (by decide) (by decide)) (@pa_cons _ _ _ _ _ (@pe_ix _ _ _ _ _ _ _ (@ix_list _) (@pv _ 2 _ _ rfl (Or.inr (Or.inl rfl)) (by decide) (by decide)) (@pe_int _ _ _ _) (fun _ _ => rfl)) (@pa_nil _) (by rfl)) (by rfl)) (by rfl)) (by rfl)) (by decide) (by decide) (by rfl) (by rfl)) (by intro _; rfl)))))) (@pss_one _ _ _ (@ps_ret _ _ _ _ (@pe_bl _ _ _ _))) (@pss_nil _))))) (by intro _; rfl)) (@pss_cons _ _ _ _ _ (@ps_set _ _ (12) _ _ _ _ sc_law.nd rfl (Or.inl rfl) (@pe_lst _ _ _ _ (@pa_cons _ _ _ _ _ (@pe_tup _ _ _ _ _ (@pa_cons _ _ _ _ _ (@pe_non _ _ _) (@pa_cons _ _ _ _ _ (@pe_int _ _ _ _) (@pa_nil _) (by rfl)) (by rfl))) (@pa_cons _ _ _ _ _ (@pe_tup _ _ _ _ _ (@pa_cons _ _ _ _ _ (@pe_int _ _ _ _) (@pa_cons _ _ _ _ _ (@pe_int _ _ _ _) (@pa_nil _) (by rfl)) (by rfl))) (@pa_cons _ _ _ _ _ (@pe_tup _ _ _ _ _ (@pa_cons _ _ _ _ _ (@pe_op _ _ _ _ _ _ _ _ (@op_sub _) (@pe_un _ _ _ _ _ _ (@un_neg _) (@pe_int _ _ _ _)) (@pv _ 1 _ _ rfl (Or.inl rfl) (by decide) (by decide))) (@pa_cons _ _ _ _ _ (@pe_int _ _ _ _) (@pa_nil _) (by rfl)) (by rfl))) (@pa_cons _ _ _ _ _ (@pe_tup _ _ _ _ _ (@pa_cons _ _ _ _ _ (@pe_int _ _ _ _) (@pa_cons _ _ _ _ _ (@pe_non _ _ _) (@pa_nil _) (by rfl)) (by rfl))) (@pa_cons _ _ _ _ _ (@pe_tup _ _ _ _ _ (@pa_cons _ _ _ _ _ (@pe_int _ _ _ _) (@pa_cons _ _ _ _ _ (@pe_un _ _ _ _ _ _ (@un_neg _) (@pe_int _ _ _ _)) (@pa_nil _) (by rfl)) (by rfl))) (@pa_cons _ _ _ _ _ (@pe_tup _ _ _ _ _ (@pa_cons _ _ _ _ _ (@pe_int _ _ _ _) (@pa_cons _ _ _ _ _ (@pe_bl _ _ _ _) (@pa_nil _) (by rfl)) (by rfl))) (@pa_cons _ _ _ _ _ (@pe_tup _ _ _ _ _ (@pa_cons _ _ _ _ _ (@pe_bl _ _ _ _) (@pa_cons _ _ _ _ _ (@pe_int _ _ _ _) (@pa_nil _) (by rfl)) (by rfl))) (@pa_cons _ _ _ _ _ (@pe_tup _ _ _ _ _ (@pa_cons _ _ _ _ _ (@pe_int _ _ _ _) (@pa_cons _ _ _ _ _ (@pv _ 5 _ _ rfl (Or.inl rfl) (by decide) (by decide)) (@pa_nil _) (by rfl)) (by rfl))) (@pa_cons _ _ _ _ _ (@pe_tup _ _ _ _ _ (@pa_cons _ _ _ _ _ (@pv _ 5 _ _ rfl (Or.inl rfl) (by decide) (by decide)) (@pa_cons _ _ _ _ _ (@pe_int _ _ _ _) (@pa_nil _) (by rfl)) (by rfl))) (@pa_nil _) (by rfl)) (by rfl)) (by rfl)) (by rfl)) (by rfl)) (by rfl)) (by rfl)) (by rfl)) (by rfl))) (by rfl) (by first | exact .inl rfl | exact .inr rfl | assumption)) (@pss_cons _ _ _ _ _ (@ps_set _ _ (12) _ _ _ _ sc_law.nd rfl (Or.inl rfl) (@pe_op _ _ _ _ _ _ _ _ (@op_cat _) (@pv _ 12 _ _ rfl (Or.inl rfl) (by decide) (by decide)) (@pe_lst _ _ _ _ (@pa_cons _ _ _ _ _ (@pe_tup _ _ _ _ _ (@pa_cons _ _ _ _ _ (@pe_op _ _ _ _ _ _ _ _ (@op_add _) (@pv _ 5 _ _ rfl (Or.inl rfl) (by decide) (by decide)) (@pe_int _ _ _ _)) (@pa_cons _ _ _ _ _ (@pe_int _ _ _ _) (@pa_nil _) (by rfl)) (by rfl))) (@pa_cons _ _ _ _ _ (@pe_tup _ _ _ _ _ (@pa_cons _ _ _ _ _ (@pe_int _ _ _ _) (@pa_cons _ _ _ _ _ (@pe_op _ _ _ _ _ _ _ _ (@op_add _) (@pv _ 5 _ _ rfl (Or.inl rfl) (by decide) (by decide)) (@pv _ 1 _ _ rfl (Or.inl rfl) (by decide) (by decide))) (@pa_nil _) (by rfl)) (by rfl))) (@pa_cons _ _ _ _ _ (@pe_tup _ _ _ _ _ (@pa_cons _ _ _ _ _ (@pe_op _ _ _ _ _ _ _ _ (@op_add _) (@pe_op _ _ _ _ _ _ _ _ (@op_add _) (@pv _ 5 _ _ rfl (Or.inl rfl) (by decide) (by decide)) (@pe_int _ _ _ _)) (@pv _ 1 _ _ rfl (Or.inl rfl) (by decide) (by decide))) (@pa_cons _ _ _ _ _ (@pe_int _ _ _ _) (@pa_nil _) (by rfl)) (by rfl))) (@pa_cons _ _ _ _ _ (@pe_tup _ _ _ _ _ (@pa_cons _ _ _ _ _ (@pe_str _ _ _ _) (@pa_cons _ _ _ _ _ (@pe_int _ _ _ _) (@pa_nil _) (by rfl)) (by rfl))) (@pa_nil _) (by rfl)) (by rfl)) (by rfl)) (by rfl)))) (by rfl) (by first | exact .inl rfl | exact .inr rfl | assumption)) (@pss_cons _ _ _ _ _ (@ps_if _ _ _ _ _ _ _ _ (@pt_not _ _ _ _ (@pt_val _ _ _ (@pe_fn _ _ _ _ _ _ _ _ _ _ _ c_law_all hr rfl (@pa_cons _ _ _ _ _ (@pe_glob _ _ (.ref f_law_row) _ _ rfl m_law_row rfl (by decide)) (@pa_cons _ _ _ _ _ (@pv _ 4 _ _ rfl (Or.inl rfl) (by decide) (by decide)) (@pa_cons _ _ _ _ _ (@pv _ 12 _ _ rfl (Or.inl rfl) (by decide) (by decide)) (@pa_cons _ _ _ _ _ (@pe_ix _ _ _ _ _ _ _ (@ix_list _) (@pv _ 2 _ _ rfl (Or.inr (Or.inl rfl)) (by decide) (by decide)) (@pe_int _ _ _ _) (fun _ _ => rfl)) (@pa_nil _) (by rfl)) (by rfl)) (by rfl)) (by rfl)) (by decide) (by decide) (by rfl) (by rfl)) (by intro _; rfl))) (@pss_one _ _ _ (@ps_ret _ _ _ _ (@pe_bl _ _ _ _))) (@pss_nil _)) (@pss_cons _ _ _ _ _ (@ps_if _ _ _ _ _ _ _ _ (@pt_not _ _ _ _ (@pt_val _ _ _ (@pe_callB _ _ _ _ _ _ _ _ _ (@call_all _ rfl) rfl T.all_ PyProof.Rows.boot_all (@pa_cons _ _ _ _ _ (@pe_comp _ _ _ _ _ _ _ (["_law_due"]) ([2]) _ _ rfl (@pi_list _ _ _ _ (@pe_op _ _ _ _ _ _ _ _ (@op_cat _) (@pv _ 7 _ _ rfl (Or.inl rfl) (by decide) (by decide)) (@pe_lst _ _ _ _ (@pa_cons _ _ _ _ _ (@pe_str _ _ _ _) (@pa_nil _) (by rfl))))) (fun cl CC fp ss HH => (@pe_cmpR _ _ _ _ _ _ _ _ (@op_eqBC _ _ _ _ _ _ _ _ hr.units0) (@pe_fn _ _ _ _ _ _ _ _ _ _ _ c_law_told hr rfl (@pa_cons _ _ _ _ _ (@pe_glob _ _ (.ref f_law_with_turns) _ _ rfl m_law_with_turns rfl (by decide)) (@pa_cons _ _ _ _ _ (@pv _ 0 _ _ (by rfl) (by first | exact Or.inl rfl | exact Or.inr (Or.inl rfl) | exact Or.inr (Or.inr rfl)) (by decide) (by decide)) (@pa_cons _ _ _ _ _ (@pe_non _ _ _) (@pa_nil _) (by rfl)) (by rfl)) (by rfl)) (by decide) (by decide) (by rfl) (by rfl)) (@pe_ix _ _ _ _ _ _ _ (@ix_listC _ _ _ _ _ _ _ _) (@pv _ 1 _ _ (by rfl) (by first | exact Or.inl rfl | exact Or.inr (Or.inl rfl) | exact Or.inr (Or.inr rfl)) (by decide) (by decide)) (@pe_int _ _ _ _) (fun _ _ => rfl)) (nomark _))) (by decide +kernel) rfl rfl (by decide +kernel) (by decide +kernel) rfl (by decide +kernel) rfl (by intro _; rfl)) (@pa_nil _) (by rfl)) (by decide) (by decide) (by rfl) (by rfl)) (by intro _; rfl))) (@pss_one _ _ _ (@ps_ret _ _ _ _ (@pe_bl _ _ _ _))) (@pss_nil _)) (@pss_cons _ _ _ _ _ (@ps_if _ _ _ _ _ _ _ _ (@pt_not _ _ _ _ (@pt_val _ _ _ (@pe_fn _ _ _ _ _ _ _ _ _ _ _ c_law_all hr rfl (@pa_cons _ _ _ _ _ (@pe_glob _ _ (.ref f_law_with_turns) _ _ rfl m_law_with_turns rfl (by decide)) (@pa_cons _ _ _ _ _ (@pe_op _ _ _ _ _ _ _ _ (@op_add_str _) (@pv _ 4 _ _ rfl (Or.inl rfl) (by decide) (by decide)) (@pe_str _ _ _ _)) (@pa_cons _ _ _ _ _ (@pe_lst _ _ _ _ (@pa_cons _ _ _ _ _ (@pe_non _ _ _) (@pa_cons _ _ _ _ _ (@pe_str _ _ _ _) (@pa_cons _ _ _ _ _ (@pe_bl _ _ _ _) (@pa_cons _ _ _ _ _ (@pe_lst _ _ _ _ (@pa_cons _ _ _ _ _ (@pe_int _ _ _ _) (@pa_nil _) (by rfl))) (@pa_cons _ _ _ _ _ (@pe_int _ _ _ _) (@pa_cons _ _ _ _ _ (@pe_un _ _ _ _ _ _ (@un_neg _) (@pe_int _ _ _ _)) (@pa_cons _ _ _ _ _ (@pe_op _ _ _ _ _ _ _ _ (@op_sub _) (@pe_un _ _ _ _ _ _ (@un_neg _) (@pe_int _ _ _ _)) (@pv _ 1 _ _ rfl (Or.inl rfl) (by decide) (by decide))) (@pa_nil _) (by rfl)) (by rfl)) (by rfl)) (by rfl)) (by rfl)) (by rfl)) (by rfl))) (@pa_cons _ _ _ _ _ (@pe_ix _ _ _ _ _ _ _ (@ix_list _) (@pv _ 2 _ _ rfl (Or.inr (Or.inl rfl)) (by decide) (by decide)) (@pe_int _ _ _ _) (fun _ _ => rfl)) (@pa_nil _) (by rfl)) (by rfl)) (by rfl)) (by rfl)) (by decide) (by decide) (by rfl) (by rfl)) (by intro _; rfl))) (@pss_one _ _ _ (@ps_ret _ _ _ _ (@pe_bl _ _ _ _))) (@pss_nil _)) (@pss_one _ _ _ (@ps_ret _ _ _ _ (@pe_and _ _ _ _ _ _ _ (@pe_cmpR _ _ _ _ _ _ _ _ (@op_eq _) (@pe_fn _ _ _ _ _ _ _ _ _ _ _ c_creases hr rfl (@pa_cons _ _ _ _ _ (@pv _ 4 _ _ rfl (Or.inl rfl) (by decide) (by decide)) (@pa_cons _ _ _ _ _ (@pv _ 5 _ _ rfl (Or.inl rfl) (by decide) (by decide)) (@pa_cons _ _ _ _ _ (@pe_int _ _ _ _) (@pa_nil _) (by rfl)) (by rfl)) (by rfl)) (by decide) (by decide) (by rfl) (by rfl)) (@pe_str _ _ _ _) (nomark _)) (@pe_and _ _ _ _ _ _ _ (@pe_cmpR _ _ _ _ _ _ _ _ (@op_eq _) (@pe_fn _ _ _ _ _ _ _ _ _ _ _ c_lefts hr rfl (@pa_cons _ _ _ _ _ (@pe_str _ _ _ _) (@pa_cons _ _ _ _ _ (@pe_int _ _ _ _) (@pa_nil _) (by rfl)) (by rfl)) (by decide) (by decide) (by rfl) (by rfl)) (@pe_int _ _ _ _) (nomark _)) (@pe_one _ _ _ _ _ (@pe_cmpR _ _ _ _ _ _ _ _ (@op_eqT _ hr.units0) (@pe_fn _ _ _ _ _ _ _ _ _ _ _ c_place hr rfl (@pa_cons _ _ _ _ _ (@pe_str _ _ _ _) (@pa_cons _ _ _ _ _ (@pe_int _ _ _ _) (@pa_nil _) (by rfl)) (by rfl)) (by decide) (by decide) (by rfl) (by rfl)) (@pe_tup _ _ _ _ _ (@pa_cons _ _ _ _ _ (@pe_int _ _ _ _) (@pa_cons _ _ _ _ _ (@pe_int _ _ _ _) (@pa_nil _) (by rfl)) (by rfl))) (nomark _))))))))))))))))))))))), ?_⟩
  have kF : Kinds K dBadFolds dBadCrease dBadSteps dBadTurns dBadFolds true false false false := ⟨⟨T.BadFolds_x, T.BadFolds_ga, T.BadFolds_gt, T.BadFolds_at, T.oc_get, T.oc_tk, T.BadFolds_mro, T.BadFolds_is⟩, kit_self _ _, T.BadFolds_BadCrease, T.BadFolds_BadSteps, T.BadFolds_BadTurns, T.BadFolds_V⟩
  have kC : Kinds K dBadFolds dBadCrease dBadSteps dBadTurns dBadCrease false true false false := ⟨⟨T.BadCrease_x, T.BadCrease_ga, T.BadCrease_gt, T.BadCrease_at, T.oc_get, T.oc_tk, T.BadCrease_mro, T.BadCrease_is⟩, T.BadCrease_BadFolds, kit_self _ _, T.BadCrease_BadSteps, T.BadCrease_BadTurns, T.BadCrease_V⟩
  have kS : Kinds K dBadFolds dBadCrease dBadSteps dBadTurns dBadSteps false false true false := ⟨⟨T.BadSteps_x, T.BadSteps_ga, T.BadSteps_gt, T.BadSteps_at, T.oc_get, T.oc_tk, T.BadSteps_mro, T.BadSteps_is⟩, T.BadSteps_BadFolds, T.BadSteps_BadCrease, kit_self _ _, T.BadSteps_BadTurns, T.BadSteps_V⟩
  have kT : Kinds K dBadFolds dBadCrease dBadSteps dBadTurns dBadTurns false false false true := ⟨⟨T.BadTurns_x, T.BadTurns_ga, T.BadTurns_gt, T.BadTurns_at, T.oc_get, T.oc_tk, T.BadTurns_mro, T.BadTurns_is⟩, T.BadTurns_BadFolds, T.BadTurns_BadCrease, T.BadTurns_BadSteps, kit_self _ _, T.BadTurns_V⟩
  -- the number beyond
  refine ⟨_, rfl, a, ns, 0, rfl, hS, Int.le_refl 0, fun v => ?_⟩
  refine ⟨_, _, rfl, rfl, ⟨by decide, by decide, by decide⟩, _, _, rfl, rfl, (by show (0 : Int) < 10 ^ 6; decide), ?_⟩
  obtain ⟨Fh, hFh⟩ : ∃ z : Int, z = v % 10 ^ (6 : Int).toNat := ⟨_, rfl⟩
  have F0 : 0 ≤ Fh := by rw [hFh]; exact Int.emod_nonneg _ (by decide)
  simp only [← hFh]
  -- what is due
  refine ⟨small (Nat.le_of_ble_eq_true rfl), fun d hd => ?_⟩
  generalize hg0 : upd _ d _ = H0
  refine ⟨_, rfl, for_range (fun i σ H' => Same H H' ∧ ∃ (ds : List Addr) (c : Option V), H' d = some (.lst (ds.map V.ref)) ∧ ds.length = i ∧ (∀ j p, ds[j]? = some p → H' p = some (.lst (five4 j))) ∧
      σ = [some (.ref a), some (.int Fh), some (.ref d), c, none, none, none, none, none, none, none, none, none])
    ⟨same_of hd hg0, [], _, at_of hg0, rfl, fun j p e => by simp at e, rfl⟩ ?_ ?_⟩
  · rintro i σ H' hi ⟨g, ds, c, ed, ld, hds, rfl⟩
    have hi4 : i < 4 := hi
    refine ⟨_, rfl, .inl ⟨rfl, _, SqL.of ed⟩, _, rfl, rfl, _, rfl, rfl, _, rfl, rfl, _, rfl, rfl, small (Nat.le_of_ble_eq_true rfl), fun p hp => ?_⟩
    rw [dec_k i 0 0 rfl, dec_k i 1 1 rfl, dec_k i 2 2 rfl, dec_k i 3 3 rfl]
    generalize hg1 : upd _ p _ = H1
    have s1 := same_of hp hg1
    have e1 := at_of hg1
    have ed1 := s1 _ _ ed
    have npd : p ≠ d := fun z => by rw [z] at hp; rw [hp] at ed; cases ed
    refine ⟨d, _, _, rfl, rfl, ed1, smallT (by rw [List.length_map]; omega), ?_⟩
    refine ⟨fun b o e => ?_, ds ++ [p], _, by rw [List.map_append]; exact upd_same, by rw [List.length_append, ld]; rfl, fun j p' ej => ?_, rfl⟩
    · rw [upd_ne (ne_of_none e hd)]
      exact s1 _ _ (g _ _ e)
    · rcases Nat.lt_or_ge j ds.length with c1 | c1
      · rw [List.getElem?_append_left c1] at ej
        have z := hds j p' ej
        have npd' : p' ≠ d := fun y => by
          rw [y, ed] at z
          have z := congrArg (fun o => match o with | some (HO.lst (V.bl _ :: _)) => true | _ => false) z
          cases ds with
          | nil => simp at ej
          | cons _ _ => cases z
        rw [upd_ne npd']
        exact s1 _ _ z
      · rw [List.getElem?_append_right c1] at ej
        have hj : j - ds.length = 0 := by
          rcases Nat.eq_zero_or_pos (j - ds.length) with c2 | c2
          · exact c2
          · rw [List.getElem?_eq_none (by show 1 ≤ _; omega)] at ej; cases ej
        rw [hj] at ej
        cases ej
        have : j = i := by omega
        subst this
        rw [upd_ne npd]
        exact e1
  rintro σ HB ⟨gB, ds, c, edd, ld, hds, rfl⟩
  have ld4 : ds.length = 4 := ld
  obtain ⟨d0, d1, d2, d3, rfl⟩ := four ld4
  have ed0 : HB d0 = some (.lst (five true false false false)) := hds 0 d0 rfl
  have ed1 : HB d1 = some (.lst (five false true false false)) := hds 1 d1 rfl
  have ed2 : HB d2 = some (.lst (five false false true false)) := hds 2 d2 rfl
  have ed3 : HB d3 = some (.lst (five false false false true)) := hds 3 d3 rfl
  have SB := gB.seq hS
  -- the folds
  refine ⟨_, rfl, a, ns, 1, rfl, SB, h63, by decide, fun y hlr hlen H1 g1 => ?_⟩
  have hy : Fo y := ⟨hlr, by omega⟩
  have hyl : y.length ≤ 63 := by rw [← cs_length]; omega
  have hyc : (cs y).length ≤ 63 := by omega
  refine ⟨_, rfl, _, rfl, hy.fit, _, _, rfl, rfl, ⟨by omega, by omega, by decide⟩, _, rfl, a, ns, 1, rfl, g1.seq SB, by decide, fun v2 => ?_⟩
  obtain ⟨W, hW⟩ : ∃ W : Nat, W = 2 ^ (cs y).length := ⟨_, rfl⟩
  have hW0 : 0 < W := by rw [hW]; exact Nat.two_pow_pos _
  have eW : (1 : Int) * 2 ^ ((y.length : Nat) : Int).toNat = (W : Int) := by
    rw [two_pow_cast, hW, cs_length]
  simp only [eW]
  refine ⟨_, rfl, _, rfl, hy.fit, _, _, rfl, rfl, _, _, _, rfl, by decide, by omega, fun at' at0 at1 H2 g2 => ?_⟩
  refine ⟨_, _, rfl, ?_⟩
  have g2 : Same HB H2 := g1.trans g2
  -- what are no folds
  have q1 := Txt.slice_le y none (some at')
  have q2 := Txt.slice_le y (some at') none
  refine ⟨small (Nat.le_of_ble_eq_true rfl), fun l1 hl1 => ?_⟩
  generalize hg3 : upd _ l1 _ = H3
  refine ⟨small (Nat.le_of_ble_eq_true rfl), fun t1 ht1 => ?_⟩
  generalize hg4 : upd _ t1 _ = H4
  have s3 := same_of hl1 hg3
  have s4 := same_of ht1 hg4
  refine ⟨_, rfl, _, rfl, _, rfl, _, rfl, hy.fit, _, _, rfl, rfl, small (by rw [len_x]; omega), _, rfl, _, rfl, _, rfl, _, rfl, hy.fit, _, _, rfl, rfl, small (by rw [app_len, len_x]; omega), _, rfl, _, _, rfl, rfl, small (by rw [len_R]; omega), small (Nat.le_of_ble_eq_true rfl), fun lb hlb => ?_⟩
  generalize hxb : ([_, _, _, _, _, _, _, _, _, _, _, _] : List V) = bads
  have hbads : bads.length = 12 ∧ ∀ x ∈ bads, Th H4 x ∧ isLet x = false := by
    subst hxb
    refine ⟨rfl, fun x hx => ?_⟩
    simp only [List.mem_cons, List.not_mem_nil, or_false] at hx
    rcases hx with rfl | rfl | rfl | rfl | rfl | rfl | rfl | rfl | rfl | rfl | rfl | rfl
    · exact ⟨.non, rfl⟩
    · exact ⟨.int _, rfl⟩
    · exact ⟨.lst (s4 _ _ (at_of hg3)), rfl⟩
    · exact ⟨.tup (at_of hg4), rfl⟩
    · exact ⟨.str (by decide +kernel), by decide +kernel⟩
    · exact ⟨.str (by decide +kernel), by decide +kernel⟩
    · exact ⟨.str (by decide +kernel), by decide +kernel⟩
    · exact ⟨.str (by decide +kernel), by decide +kernel⟩
    · exact ⟨.str (by decide +kernel), by decide +kernel⟩
    · exact ⟨.bl _, rfl⟩
    · refine ⟨.str (by rw [cs_length, app_len, app_len, len_x]; omega), bad_text (c := 120) ?_ (by decide) (by decide)⟩
      rw [cs_app, cs_app]
      exact List.mem_append_left _ (List.mem_append_right _ (by decide +kernel))
    · refine ⟨.str (by rw [cs_length, app_len, len_R]; omega), bad_text (c := 82) ?_ (by decide) (by decide)⟩
      rw [cs_app]
      exact List.mem_append_right _ (by decide +kernel)
  generalize hg5 : upd _ lb _ = H5
  have s5 := same_of hlb hg5
  have eb := at_of hg5
  have gB5 : Same HB H5 := ((g2.trans s3).trans s4).trans s5
  refine ⟨_, rfl, for_range (fun i σ H' => Same H5 H' ∧ ∃ c8 : Option V, σ = [some (.ref a), some (.int Fh), some (.ref d), c, some (.str y), some (.int W), some (.int at'), some (.ref lb), c8, none, none, none, none])
    ⟨Same.refl _, _, rfl⟩ ?_ ?_⟩
  · rintro i σ H' hi ⟨g, c8, rfl⟩
    have G := gB5.trans g
    refine ⟨_, rfl, _, rfl, _, rfl, d, _, _, _, rfl, rfl, SqL.of (G _ _ edd), rfl, f_law_with_folds, _, lb, d0, bads, dBadFolds, _, _, _, _, rfl, g _ _ eb, by omega, G _ _ ed0, fun x hx Hx gx => ?_, kF, T.BadFolds_FoldError, fun Hz gz => ⟨true, rfl, iteF ⟨g.trans gz, _, rfl⟩⟩⟩
    exact ⟨_, _, _, F_law_with_folds.mono (by decide), b_law_with_folds, kp_law_with_folds, fun Q' E' e => ⟨_, x, rfl, (hbads.2 x hx).1.same ((s5.trans g).trans gx), (hbads.2 x hx).2, e⟩⟩
  rintro σ H6 ⟨g6, c8, rfl⟩
  have gB6 := gB5.trans g6
  -- what are no numbers
  refine ⟨small (Nat.le_of_ble_eq_true rfl), fun l2 hl2 => ?_⟩
  generalize hg7 : upd _ l2 _ = H7
  have s7 := same_of hl2 hg7
  refine ⟨_, rfl, _, rfl, _, rfl, _, _, rfl, rfl, small (Nat.le_of_ble_eq_true rfl), fun ln hln => ?_⟩
  generalize hxn : ([_, _, _, _, _, _] : List V) = nums
  have hnums : nums.length = 6 ∧ ∀ x ∈ nums, Th H7 x ∧ Low x := by
    subst hxn
    refine ⟨rfl, fun x hx => ?_⟩
    simp only [List.mem_cons, List.not_mem_nil, or_false] at hx
    rcases hx with rfl | rfl | rfl | rfl | rfl | rfl
    · exact ⟨.non, .inl rfl⟩
    · exact ⟨.str (by decide +kernel), .inl rfl⟩
    · exact ⟨.bl _, .inl rfl⟩
    · exact ⟨.lst (at_of hg7), .inl rfl⟩
    · exact ⟨.int _, .inr ⟨_, rfl, by decide⟩⟩
    · exact ⟨.int _, .inr ⟨_, rfl, by omega⟩⟩
  generalize hg8 : upd _ ln _ = H8
  have s8 := same_of hln hg8
  have en := at_of hg8
  have gB8 := (gB6.trans s7).trans s8
  have hLW : ((2 ^ (cs y).length : Nat) : Int) = (W : Int) := by rw [hW]
  -- no crease
  refine ⟨_, rfl, _, rfl, _, rfl, _, rfl, _, rfl, _, _, rfl, rfl, small (Nat.le_of_ble_eq_true rfl), fun l3 hl3 => ?_⟩
  generalize hg9 : upd _ l3 _ = H9
  have s9 := same_of hl3 hg9
  refine ⟨ln, l3, _, _, rfl, rfl, s9 _ _ en, at_of hg9, small (by rw [hnums.1]; exact Nat.le_of_ble_eq_true rfl), fun l4 hl4 => ?_⟩
  generalize hg10 : upd _ l4 _ = H10
  have s10 := same_of hl4 hg10
  have gB10 := (gB8.trans s9).trans s10
  refine ⟨_, rfl, d, _, _, _, rfl, rfl, SqL.of (gB10 _ _ edd), rfl, f_law_with_crease, _, l4, d1, _, dBadCrease, _, _, _, _, rfl, at_of hg10, by rw [List.length_append, hnums.1]; exact Nat.le_of_ble_eq_true rfl, gB10 _ _ ed1, fun x hx Hx gx => ?_, kC, T.BadCrease_FoldError, fun H11 g11 => ⟨true, rfl, iteF ?_⟩⟩
  · have hb : Th Hx x ∧ badCr (cs y).length x := by
      rcases List.mem_append.mp hx with m | m
      · exact ⟨(hnums.2 x m).1.same (((s8.trans s9).trans s10).trans gx), (hnums.2 x m).2.cr⟩
      · simp only [List.mem_cons, List.not_mem_nil, or_false] at m
        rcases m with rfl | rfl | rfl
        · exact ⟨.int _, .inr ⟨_, rfl, .inl (by decide)⟩⟩
        · exact ⟨.int _, .inr ⟨_, rfl, .inr (by omega)⟩⟩
        · exact ⟨.int _, .inr ⟨_, rfl, .inr (by omega)⟩⟩
    exact ⟨_, _, _, F_law_with_crease.mono (by decide), b_law_with_crease, kp_law_with_crease, fun Q' E' e => ⟨.str y, x, rfl, .str hy.few, hb.1, .inr ⟨y, rfl, hlr, hb.2, e⟩⟩⟩
  have t11 : Same H8 H11 := (s9.trans s10).trans g11
  -- no lefts
  refine ⟨_, rfl, _, rfl, _, rfl, _, rfl, _, rfl, _, _, rfl, rfl, small (Nat.le_of_ble_eq_true rfl), fun l5 hl5 => ?_⟩
  generalize hg12 : upd _ l5 _ = H12
  have s12 := same_of hl5 hg12
  refine ⟨ln, l5, _, _, rfl, rfl, (t11.trans s12) _ _ en, at_of hg12, small (by rw [hnums.1]; exact Nat.le_of_ble_eq_true rfl), fun l6 hl6 => ?_⟩
  generalize hg13 : upd _ l6 _ = H13
  have s13 := same_of hl6 hg13
  have t13 := (t11.trans s12).trans s13
  have gB13 := gB8.trans t13
  refine ⟨_, rfl, d, _, _, _, rfl, rfl, SqL.of (gB13 _ _ edd), rfl, f_law_with_lefts, _, l6, d1, _, dBadCrease, _, _, _, _, rfl, at_of hg13, by rw [List.length_append, hnums.1]; exact Nat.le_of_ble_eq_true rfl, gB13 _ _ ed1, fun x hx Hx gx => ?_, kC, T.BadCrease_FoldError, fun H14 g14 => ⟨true, rfl, iteF ?_⟩⟩
  · have hb : Th Hx x ∧ badLf (cs y).length x := by
      rcases List.mem_append.mp hx with m | m
      · exact ⟨(hnums.2 x m).1.same ((s8.trans t13).trans gx), (hnums.2 x m).2.lf⟩
      · simp only [List.mem_cons, List.not_mem_nil, or_false] at m
        rcases m with rfl | rfl
        · exact ⟨.int _, .inr ⟨_, rfl, .inr (by omega)⟩⟩
        · exact ⟨.int _, .inr ⟨_, rfl, .inr (by omega)⟩⟩
    exact ⟨_, _, _, F_law_with_lefts.mono (by decide), b_law_with_lefts, kp_law_with_lefts, fun Q' E' e => ⟨.str y, x, rfl, .str hy.few, hb.1, .inr ⟨y, rfl, hlr, hb.2, e⟩⟩⟩
  have t14 : Same H8 H14 := t13.trans g14
  -- no steps
  refine ⟨small2, fun tq htq => ?_⟩
  generalize hg15 : upd _ tq _ = H15
  have s15 := same_of htq hg15
  have e15 := at_of hg15
  have t15 := t14.trans s15
  refine ⟨tq, rfl, ⟨_, SqT.of e15⟩, for_tup (K := K) (a := tq) (xs := [.int 0, .int 1]) (fun i σ H' => Same H15 H' ∧ ∃ c10 c11 : Option V, σ = [some (.ref a), some (.int Fh), some (.ref d), c, some (.str y), some (.int W), some (.int at'), some (.ref lb), c8, some (.ref ln), c10, c11, none])
    ⟨Same.refl _, _, _, rfl⟩ (fun i σ H' _ ⟨g, _⟩ => SqT.of (g _ _ e15)) ?_ ?_⟩
  · rintro i x σ H' hx ⟨g, c10, c11, rfl⟩
    have t16 := t15.trans g
    have hx01 : x = .int 0 ∨ x = .int 1 := by
      have m := List.mem_of_getElem? hx
      simpa using m
    have many : ∀ (l : Addr) (Ha : Hp), Same H8 Ha → ∀ x ∈ nums ++ [V.int ((W : Int) + 1), V.int ((W : Int) + 1 + Fh)], ∀ Hx, Same Ha Hx → Th Hx x ∧ badSt (cs y).length x := fun l Ha ga x hx Hx gx => by
      rcases List.mem_append.mp hx with m | m
      · exact ⟨(hnums.2 x m).1.same ((s8.trans ga).trans gx), (hnums.2 x m).2.st⟩
      · simp only [List.mem_cons, List.not_mem_nil, or_false] at m
        rcases m with rfl | rfl
        · exact ⟨.int _, .inr ⟨_, rfl, .inr (by omega)⟩⟩
        · exact ⟨.int _, .inr ⟨_, rfl, .inr (by omega)⟩⟩
    refine ⟨_, rfl, _, rfl, _, _, rfl, rfl, _, rfl, _, _, rfl, rfl, _, rfl, _, _, rfl, rfl, small2, fun l7 hl7 => ?_⟩
    generalize hg17 : upd _ l7 _ = H17
    have s17 := same_of hl7 hg17
    refine ⟨ln, l7, _, _, rfl, rfl, (t16.trans s17) _ _ en, at_of hg17, small (by rw [hnums.1]; exact Nat.le_of_ble_eq_true rfl), fun l8 hl8 => ?_⟩
    generalize hg18 : upd _ l8 _ = H18
    have s18 := same_of hl8 hg18
    have t18 := (t16.trans s17).trans s18
    have gB18 := gB8.trans t18
    have hlen8 : (nums ++ [V.int ((W : Int) + 1), V.int ((W : Int) + 1 + Fh)]).length ≤ 1000 := by rw [List.length_append, hnums.1]; exact Nat.le_of_ble_eq_true rfl
    rcases hx01 with rfl | rfl
    · refine ⟨_, rfl, rfl, _, rfl, ?_⟩
      refine iteY rfl ?_
      refine ⟨_, rfl, _, rfl, _, rfl, d, _, _, _, rfl, rfl, SqL.of (gB18 _ _ edd), rfl, f_law_with_steps, _, l8, d2, _, dBadSteps, _, _, _, _, rfl, at_of hg18, hlen8, gB18 _ _ ed2, fun x hx Hx gx => ?_, kS, T.BadSteps_FoldError, fun H19 g19 => ⟨true, rfl, iteF ?_⟩⟩
      · have hb := many l8 H18 t18 x hx Hx gx
        exact ⟨_, _, _, F_law_with_steps.mono (by decide), b_law_with_steps, kp_law_with_steps, fun Q' E' e => ⟨.str y, x, rfl, .str hy.few, hb.1, .inr ⟨y, rfl, hlr, hb.2, e⟩⟩⟩
      refine ⟨_, rfl, rfl, _, rfl, ?_⟩
      refine iteN (by intro z; cases z) (iteF ?_)
      exact ⟨((g.trans s17).trans s18).trans g19, _, _, rfl⟩
    · refine ⟨_, rfl, rfl, _, rfl, ?_⟩
      refine iteN (by intro z; cases z) (iteF ?_)
      refine ⟨_, rfl, rfl, _, rfl, ?_⟩
      refine iteY rfl ?_
      refine ⟨_, rfl, _, rfl, _, rfl, d, _, _, _, rfl, rfl, SqL.of (gB18 _ _ edd), rfl, f_law_with_heading, _, l8, d2, _, dBadSteps, _, _, _, _, rfl, at_of hg18, hlen8, gB18 _ _ ed2, fun x hx Hx gx => ?_, kS, T.BadSteps_FoldError, fun H19 g19 => ⟨true, rfl, iteF ?_⟩⟩
      · have hb := many l8 H18 t18 x hx Hx gx
        exact ⟨_, _, _, F_law_with_heading.mono (by decide), b_law_with_heading, kp_law_with_heading, fun Q' E' e => ⟨.str y, x, rfl, .str hy.few, hb.1, .inr ⟨y, rfl, hlr, hb.2, e⟩⟩⟩
      exact ⟨((g.trans s17).trans s18).trans g19, _, _, rfl⟩
  rintro σ H20 ⟨g20, c10, c11, rfl⟩
  have gB20 := (gB8.trans t15).trans g20
  have eb20 : H20 lb = some (.lst bads) := ((((g6.trans s7).trans s8).trans t15).trans g20) _ _ eb
  have th20 : Same H4 H20 := ((((s5.trans g6).trans s7).trans s8).trans t15).trans g20
  -- rows: no two numbers
  refine ⟨small2, fun p1 hp1 => ?_⟩
  generalize hk1 : upd _ p1 _ = K1
  refine ⟨small2, fun p2 hp2 => ?_⟩
  generalize hk2 : upd _ p2 _ = K2
  refine ⟨_, rfl, _, rfl, _, _, rfl, rfl, small2, fun p3 hp3 => ?_⟩
  generalize hk3 : upd _ p3 _ = K3
  refine ⟨small2, fun p4 hp4 => ?_⟩
  generalize hk4 : upd _ p4 _ = K4
  refine ⟨_, rfl, small2, fun p5 hp5 => ?_⟩
  generalize hk5 : upd _ p5 _ = K5
  refine ⟨small2, fun p6 hp6 => ?_⟩
  generalize hk6 : upd _ p6 _ = K6
  refine ⟨small2, fun p7 hp7 => ?_⟩
  generalize hk7 : upd _ p7 _ = K7
  refine ⟨_, rfl, small2, fun p8 hp8 => ?_⟩
  generalize hk8 : upd _ p8 _ = K8
  refine ⟨_, rfl, small2, fun p9 hp9 => ?_⟩
  generalize hk9 : upd _ p9 _ = K9
  refine ⟨small (Nat.le_of_ble_eq_true rfl), fun lp hlp => ?_⟩
  generalize hka : upd _ lp _ = KA
  refine ⟨_, rfl, _, rfl, _, _, rfl, rfl, small2, fun p10 hp10 => ?_⟩
  generalize hk10 : upd _ p10 _ = K10
  refine ⟨_, rfl, _, rfl, _, _, rfl, rfl, small2, fun p11 hp11 => ?_⟩
  generalize hk11 : upd _ p11 _ = K11
  refine ⟨_, rfl, _, _, rfl, rfl, _, rfl, _, _, rfl, rfl, small2, fun p12 hp12 => ?_⟩
  generalize hk12 : upd _ p12 _ = K12
  refine ⟨small2, fun p13 hp13 => ?_⟩
  generalize hk13 : upd _ p13 _ = K13
  refine ⟨small (Nat.le_of_ble_eq_true rfl), fun lq hlq => ?_⟩
  generalize hkb : upd _ lq _ = KB
  have rb := same_of hlq hkb
  have r13 := (same_of hp13 hk13).trans rb
  have r12 := (same_of hp12 hk12).trans r13
  have r11 := (same_of hp11 hk11).trans r12
  have r10 := (same_of hp10 hk10).trans r11
  have ra := (same_of hlp hka).trans r10
  have r9 := (same_of hp9 hk9).trans ra
  have r8 := (same_of hp8 hk8).trans r9
  have r7 := (same_of hp7 hk7).trans r8
  have r6 := (same_of hp6 hk6).trans r7
  have r5 := (same_of hp5 hk5).trans r6
  have r4 := (same_of hp4 hk4).trans r5
  have r3 := (same_of hp3 hk3).trans r4
  have r2 := (same_of hp2 hk2).trans r3
  have r1 := (same_of hp1 hk1).trans r2
  refine ⟨lp, lq, _, _, rfl, rfl, r10 _ _ (at_of hka), at_of hkb, small (Nat.le_of_ble_eq_true rfl), fun lr hlr' => ?_⟩
  generalize hkc : upd _ lr _ = KC
  have rc := same_of hlr' hkc
  have gBC := (gB20.trans r1).trans rc
  refine ⟨_, rfl, _, rfl, _, rfl, d, _, _, _, rfl, rfl, SqL.of (gBC _ _ edd), rfl, f_law_row, _, lr, d1, _, dBadCrease, _, _, _, _, rfl, at_of hkc, Nat.le_of_ble_eq_true rfl, gBC _ _ ed1, fun x hx Hx gx => ?_, kC, T.BadCrease_FoldError, fun H21 g21 => ⟨true, rfl, iteF ?_⟩⟩
  · have hb : ∃ (p : Addr) (u z : V), x = .ref p ∧ Hx p = some (.tup [u, z]) ∧ Th Hx u ∧ Th Hx z ∧ badRw (cs y).length u z := by
      have rz := rc.trans gx
      simp only [List.cons_append, List.nil_append, List.mem_cons, List.not_mem_nil, or_false] at hx
      rcases hx with rfl | rfl | rfl | rfl | rfl | rfl | rfl | rfl | rfl | rfl | rfl | rfl | rfl
      · exact ⟨p1, _, _, rfl, rz _ _ (r2 _ _ (at_of hk1)), .non, .int _, .inl rfl⟩
      · exact ⟨p2, _, _, rfl, rz _ _ (r3 _ _ (at_of hk2)), .int _, .int _, .inr (.inr ⟨_, _, rfl, rfl, .inl (by decide)⟩)⟩
      · exact ⟨p3, _, _, rfl, rz _ _ (r4 _ _ (at_of hk3)), .int _, .int _, .inr (.inr ⟨_, _, rfl, rfl, .inl (by omega)⟩)⟩
      · exact ⟨p4, _, _, rfl, rz _ _ (r5 _ _ (at_of hk4)), .int _, .non, .inr (.inl rfl)⟩
      · exact ⟨p5, _, _, rfl, rz _ _ (r6 _ _ (at_of hk5)), .int _, .int _, .inr (.inr ⟨_, _, rfl, rfl, .inr (.inl (by decide))⟩)⟩
      · exact ⟨p6, _, _, rfl, rz _ _ (r7 _ _ (at_of hk6)), .int _, .bl _, .inr (.inl rfl)⟩
      · exact ⟨p7, _, _, rfl, rz _ _ (r8 _ _ (at_of hk7)), .bl _, .int _, .inl rfl⟩
      · exact ⟨p8, _, _, rfl, rz _ _ (r9 _ _ (at_of hk8)), .int _, .int _, .inr (.inr ⟨_, _, rfl, rfl, .inr (.inr (by omega))⟩)⟩
      · exact ⟨p9, _, _, rfl, rz _ _ (ra _ _ (at_of hk9)), .int _, .int _, .inr (.inr ⟨_, _, rfl, rfl, .inr (.inr (by omega))⟩)⟩
      · exact ⟨p10, _, _, rfl, rz _ _ (r11 _ _ (at_of hk10)), .int _, .int _, .inr (.inr ⟨_, _, rfl, rfl, .inr (.inr (by omega))⟩)⟩
      · exact ⟨p11, _, _, rfl, rz _ _ (r12 _ _ (at_of hk11)), .int _, .int _, .inr (.inr ⟨_, _, rfl, rfl, .inr (.inr (by omega))⟩)⟩
      · exact ⟨p12, _, _, rfl, rz _ _ (r13 _ _ (at_of hk12)), .int _, .int _, .inr (.inr ⟨_, _, rfl, rfl, .inr (.inr (by omega))⟩)⟩
      · exact ⟨p13, _, _, rfl, rz _ _ (rb _ _ (at_of hk13)), .str (by decide +kernel), .int _, .inl rfl⟩
    obtain ⟨p, u, z, rfl, e1, h1, h2, h3⟩ := hb
    exact ⟨_, _, _, F_law_row.mono (by decide), b_law_row, kp_law_row, fun Q' E' e => ⟨y, p, u, z, rfl, hy, e1, h1, h2, h3, e⟩⟩
  have gB21 := gBC.trans g21
  have g2021 : Same H20 H21 := (r1.trans rc).trans g21
  -- no turns
  refine ⟨_, rfl, small (Nat.le_of_ble_eq_true rfl), fun l9 hl9 => ?_⟩
  generalize hg22 : upd _ l9 _ = H22
  have s22 := same_of hl9 hg22
  refine ⟨lb, l9, _, _, rfl, rfl, (g2021.trans s22) _ _ eb20, at_of hg22, small (by rw [hbads.1]; exact Nat.le_of_ble_eq_true rfl), fun l10 hl10 => ?_⟩
  generalize hg23 : upd _ l10 _ = H23
  have s23 := same_of hl10 hg23
  have g2023 := (g2021.trans s22).trans s23
  have gB23 := (gB21.trans s22).trans s23
  refine ⟨l10, rfl, ⟨_, SqL.of (at_of hg23)⟩, fun pc hpc => ?_⟩
  refine comp_listS (fun _ v => v = V.bl true) hpc (at_of hg23) (by rw [List.length_append, hbads.1]; exact Nat.le_of_ble_eq_true rfl) ?_ ?_
  · intro i x H' R hx g k
    have hb : Th H' x ∧ isTn x = false := by
      rcases List.mem_append.mp (List.mem_of_getElem? hx) with m | m
      · exact ⟨(hbads.2 x m).1.same ((th20.trans g2023).trans g), isTn_of (hbads.2 x m).2⟩
      · rw [List.mem_singleton.mp m]
        exact ⟨.str (by decide +kernel), by decide +kernel⟩
    have G := gB23.trans g
    refine ⟨_, rfl, f_law_with_turns, x, .non, dBadTurns, _, _, _, _, rfl, ⟨_, _, _, F_law_with_turns.mono (by decide), b_law_with_turns, kp_law_with_turns, fun Q' E' e => ⟨x, .non, rfl, hb.1, .non, .inl ⟨hb.2, e⟩⟩⟩, kT, T.BadTurns_FoldError, fun p1' H1' g1' e1' => ?_⟩
    refine ⟨_, rfl, d, _, _, _, rfl, rfl, SqL.of ((G.trans g1') _ _ edd), rfl, ?_⟩
    refine ⟨p1', d3, [false, false, false, true, true], rfl, rfl, SqL.of e1', SqL.of ((G.trans g1') _ _ ed3), ?_⟩
    exact k _ _ g1' rfl
  intro ys H24 hl24 hv24 g24 e24
  obtain ⟨bs24, rfl, hb24⟩ := bools_true' hv24
  refine ⟨pc, bs24, rfl, SqL.of e24, ?_⟩
  rw [hb24]
  refine ⟨true, rfl, iteF ?_⟩
  have gB24 := gB23.trans g24
  -- turns, and no count
  refine ⟨_, rfl, _, _, rfl, rfl, small (by rw [len_l]; omega), small (Nat.le_of_ble_eq_true rfl), fun l11 hl11 => ?_⟩
  generalize hg25 : upd _ l11 _ = H25
  have s25 := same_of hl11 hg25
  refine ⟨_, rfl, _, rfl, _, rfl, _, _, rfl, rfl, small (Nat.le_of_ble_eq_true rfl), fun l12 hl12 => ?_⟩
  generalize hxc : ([_, _, _, _, _, _, _] : List V) = cnts
  have hcnts : cnts.length = 7 ∧ ∀ x ∈ cnts, Th H25 x ∧ isCn x = false := by
    subst hxc
    refine ⟨rfl, fun x hx => ?_⟩
    simp only [List.mem_cons, List.not_mem_nil, or_false] at hx
    rcases hx with rfl | rfl | rfl | rfl | rfl | rfl | rfl
    · exact ⟨.non, rfl⟩
    · exact ⟨.str (by decide +kernel), rfl⟩
    · exact ⟨.bl _, rfl⟩
    · exact ⟨.lst (at_of hg25), rfl⟩
    · exact ⟨.int _, rfl⟩
    · exact ⟨.int _, rfl⟩
    · exact ⟨.int _, decide_eq_false (by omega)⟩
  generalize hg26 : upd _ l12 _ = H26
  have s26 := same_of hl12 hg26
  have gB26 := (gB24.trans s25).trans s26
  have hyl1 : cs (y ++ PySem.Str.ofString "l") = cs y ++ [108] := by rw [cs_app, cs_l1]
  have htn : isTn (.str (y ++ PySem.Str.ofString "l")) = true := by
    show (lrB _ && decide _) = true
    rw [hyl1]
    have z1 : lrB (cs y ++ [108]) = true := lrB_iff.mpr fun c hc => (List.mem_append.mp hc).elim (hlr c) fun m => .inl (List.mem_singleton.mp m)
    rw [z1, decide_eq_true (by simp)]
    rfl
  refine ⟨_, rfl, d, _, _, _, rfl, rfl, SqL.of (gB26 _ _ edd), rfl, f_law_with_turns, _, l12, d1, cnts, dBadCrease, _, _, _, _, rfl, at_of hg26, by omega, gB26 _ _ ed1, fun x hx Hx gx => ?_, kC, T.BadCrease_FoldError, fun H27 g27 => ⟨true, rfl, iteF ?_⟩⟩
  · exact ⟨_, _, _, F_law_with_turns.mono (by decide), b_law_with_turns, kp_law_with_turns, fun Q' E' e => ⟨_, x, rfl, .str (by rw [hyl1, List.length_append]; show _ + 1 ≤ _; omega), (hcnts.2 x hx).1.same (s26.trans gx), .inr ⟨htn, (hcnts.2 x hx).2, e⟩⟩⟩
  -- what is just within
  refine ⟨_, rfl, _, rfl, y, W, 0, rfl, hy, hW0, by rw [← hW]; omega, by omega, fun H28 g28 => ?_⟩
  refine ⟨rfl, _, rfl, ?_⟩
  refine iteY (by rw [code_0]; rfl) ?_
  refine ⟨_, 0, rfl, fo_e, Nat.two_pow_pos _, rfl, _, rfl, ?_⟩
  refine iteY (by rw [lft_zero]; rfl) ?_
  refine ⟨_, 1, rfl, fo_e, by rw [cs_e]; decide, fun b3 K3' k3 e3' => ?_⟩
  refine ⟨small2, fun b4 hb4 => ?_⟩
  generalize hg29 : upd _ b4 _ = H29
  refine ⟨b3, b4, _, _, rfl, rfl, (e3'.same (same_of hb4 hg29)).sq, SqT.of (at_of hg29), rfl, rfl, ?_⟩
  exact q H29
end
theorem bindsN1 {α : Type} {us : List Value} {f g : List Value → α} (h : us.length = 1) (e : ∀ a, f [a] = g [a]) : f us = g us := by
  match us, h with
  | [a], _ => exact e a
theorem bindsN2 {α : Type} {us : List Value} {f g : List Value → α} (h : us.length = 2) (e : ∀ a b, f [a, b] = g [a, b]) : f us = g us := by
  match us, h with
  | [a, b], _ => exact e a b
theorem bindsN3 {α : Type} {us : List Value} {f g : List Value → α} (h : us.length = 3) (e : ∀ a b c, f [a, b, c] = g [a, b, c]) : f us = g us := by
  match us, h with
  | [a, b, c], _ => exact e a b c
theorem bindsN4 {α : Type} {us : List Value} {f g : List Value → α} (h : us.length = 4) (e : ∀ a b c d, f [a, b, c, d] = g [a, b, c, d]) : f us = g us := by
  match us, h with
  | [a, b, c, d], _ => exact e a b c d
theorem df_mk {K : PySem.W.Frag} {h : Heap} {mg : PySem.Str → Option Value} (X : K.In h) (G : h.Ns mainGlobals mg) {x : PySem.Str} {st : Stmt} {ps : List PySem.Str} {f : Addr} {oc : Value} {od an : Option Addr} {osl : Array (Option Value)} {kV doc pm cdv ct : Value}
    (a : PySem.W.nsIn K mainGlobals x = some (some (.ref f))) (l : K.lookup f = some ⟨oc, od, .func (PySem.W.fnOf x x (defArgs st) (defBody st) (defScope st) .none kV doc pm an cdv ct), osl⟩) (c : PySem.W.codeIn K cdv x = true) (k : PySem.W.keepIn K (.ref f) = true)
    (hb : ∀ (kV doc pm : Value) (an : Option Addr) (cdv ct : Value) (us : List Value), us.length = ps.length → bindArgs (PySem.W.fnOf x x (defArgs st) (defBody st) (defScope st) .none kV doc pm an cdv ct) ⟨us, []⟩ = pure (ps.zip us)) : Df K mg x st ps :=
  have F := fun_mk (st := st) l c k
  ⟨f, _, F, F.binds hb, PySem.W.mg_of X G a⟩
theorem ib_mk {K : PySem.W.Frag} (e : PySem.W.subIn K (.type "int") (.type "bool") = some false) : PySem.W.kitOne K (.type "int") (.type "bool") = some false := by
  unfold PySem.W.kitOne
  rw [if_neg (by decide +kernel)]
  show (if PySem.W.kitMeta "bool" = true then PySem.W.subIn K (.type "int") (.type "bool") else none) = _
  rw [if_pos (by decide +kernel)]
  exact e
theorem txt_mk {P : Program} {w : World} {K : PySem.W.Frag} {h : Heap} {mg : PySem.Str → Option Value} {dFoldError dBadFolds dBadCrease dBadSteps dBadTurns dOTHER dQUARTERS dSTEPS a0 a1 a2 a3 : Addr} (X : K.In h) (G : h.Ns mainGlobals mg)
    (e1 : PySem.W.nsIn K mainGlobals "ValueError" = some none) (e2 : PySem.W.nsIn K mainGlobals "len" = some none) (e3 : PySem.W.nsIn K mainGlobals "isinstance" = some none) (e4 : PySem.W.nsIn K mainGlobals "str" = some none) (e5 : PySem.W.nsIn K mainGlobals "int" = some none) (e6 : PySem.W.nsIn K mainGlobals "bool" = some none) (e7 : PySem.W.nsIn K mainGlobals "range" = some none) (e8 : PySem.W.nsIn K mainGlobals "all" = some none) (e9 : PySem.W.nsIn K mainGlobals "enumerate" = some none) (e10 : PySem.W.nsIn K mainGlobals "OTHER" = some (some (.ref dOTHER))) (t1OTHER : PyProof.Rows.KTD.tabLook PyProof.Rows.KTD.flatLooks (fun b => K.lookup b) dOTHER tabO = true) (t2OTHER : PyProof.Rows.KTD.hashesOf (fun b => K.lookup b) dOTHER = tabO.map fun p => (PySem.strKind P w).hash p.1) (e11 : PySem.W.nsIn K mainGlobals "QUARTERS" = some (some (.ref dQUARTERS))) (t1QUARTERS : PyProof.Rows.KTD.tabLook PyProof.Rows.KTD.flatLooks (fun b => K.lookup b) dQUARTERS tabQ = true) (t2QUARTERS : PyProof.Rows.KTD.hashesOf (fun b => K.lookup b) dQUARTERS = tabQ.map fun p => (PySem.strKind P w).hash p.1) (e12 : PySem.W.nsIn K mainGlobals "STEPS" = some (some (.ref dSTEPS))) {uS u0 u1 u2 u3 : Option Addr} {vS v0 v1 v2 v3 : Array (Option Value)} {nS n0 n1 n2 n3 : Nat} {k0 l0 k1 l1 k2 l2 k3 l3 : Tok} (qS : K.lookup dSTEPS = some ⟨.type "tuple", uS, .seq #[.ref a0, .ref a1, .ref a2, .ref a3] nS, vS⟩) (q0 : K.lookup a0 = some ⟨.type "tuple", u0, .seq #[.int 1 k0, .int 0 l0] n0, v0⟩) (q1 : K.lookup a1 = some ⟨.type "tuple", u1, .seq #[.int 0 k1, .int 1 l1] n1, v1⟩) (q2 : K.lookup a2 = some ⟨.type "tuple", u2, .seq #[.int (-1) k2, .int 0 l2] n2, v2⟩) (q3 : K.lookup a3 = some ⟨.type "tuple", u3, .seq #[.int 0 k3, .int (-1) l3] n3, v3⟩) (i1 : PySem.W.subIn K (.type "int") (.type "bool") = some false) (e13 : PySem.W.nsIn K mainGlobals "FoldError" = some (some (.ref dFoldError))) (e14 : PySem.W.nsIn K mainGlobals "BadFolds" = some (some (.ref dBadFolds))) (e15 : PySem.W.nsIn K mainGlobals "BadCrease" = some (some (.ref dBadCrease))) (e16 : PySem.W.nsIn K mainGlobals "BadSteps" = some (some (.ref dBadSteps))) (e17 : PySem.W.nsIn K mainGlobals "BadTurns" = some (some (.ref dBadTurns))) (xBadFolds : PySem.W.excIn K dBadFolds [.type "ValueError", .type "Exception", .type "BaseException", .type "object"] "ValueError.__new__" = true) (mBadFoldsFoldError : PySem.W.exmOne K (.ref dBadFolds) (.ref dFoldError) = some true) (xBadCrease : PySem.W.excIn K dBadCrease [.type "ValueError", .type "Exception", .type "BaseException", .type "object"] "ValueError.__new__" = true) (mBadCreaseFoldError : PySem.W.exmOne K (.ref dBadCrease) (.ref dFoldError) = some true) (xBadSteps : PySem.W.excIn K dBadSteps [.type "ValueError", .type "Exception", .type "BaseException", .type "object"] "ValueError.__new__" = true) (mBadStepsFoldError : PySem.W.exmOne K (.ref dBadSteps) (.ref dFoldError) = some true) (xBadTurns : PySem.W.excIn K dBadTurns [.type "ValueError", .type "Exception", .type "BaseException", .type "object"] "ValueError.__new__" = true) (mBadTurnsFoldError : PySem.W.exmOne K (.ref dBadTurns) (.ref dFoldError) = some true) (fs_NoneType : PySem.W.kitOne K (.type "NoneType") (.type "str") = some false) (fs_int : PySem.W.kitOne K (.type "int") (.type "str") = some false) (fs_bool : PySem.W.kitOne K (.type "bool") (.type "str") = some false) (fs_list : PySem.W.kitOne K (.type "list") (.type "str") = some false) (fs_tuple : PySem.W.kitOne K (.type "tuple") (.type "str") = some false) (fi_NoneType : PySem.W.kitOne K (.type "NoneType") (.type "int") = some false) (fi_str : PySem.W.kitOne K (.type "str") (.type "int") = some false) (fi_list : PySem.W.kitOne K (.type "list") (.type "int") = some false) (fi_tuple : PySem.W.kitOne K (.type "tuple") (.type "int") = some false) (fi_bool : PySem.W.kitOne K (.type "bool") (.type "int") = some true) (foc_get : PySem.W.specialIn K (.builtin "object.__class__") "__get__" = some (some (.builtin "getset_descriptor.__get__"))) (foc_tk : PySem.W.takesIn K (.builtin "object.__class__") = some true) (fBadFolds_ga : PySem.W.findIn K (.ref dBadFolds) "__getattribute__" = some (some (.builtin "BaseException.__getattribute__"))) (fBadFolds_gt : PySem.W.findIn K (.ref dBadFolds) "__getattr__" = some none) (fBadFolds_at : PySem.W.findIn K (.ref dBadFolds) "__class__" = some (some (.builtin "object.__class__"))) (fBadFolds_mro : PySem.W.mroIn K dBadFolds (.type "object") = some true) (fBadFolds_is : (PySem.W.clsIn K dBadFolds).isSome = true) (fBadFolds_BadCrease : PySem.W.kitOne K (.ref dBadFolds) (.ref dBadCrease) = some false) (fBadFolds_BadSteps : PySem.W.kitOne K (.ref dBadFolds) (.ref dBadSteps) = some false) (fBadFolds_BadTurns : PySem.W.kitOne K (.ref dBadFolds) (.ref dBadTurns) = some false) (fBadFolds_V : PySem.W.kitOne K (.ref dBadFolds) (.type "ValueError") = some true) (fBadCrease_ga : PySem.W.findIn K (.ref dBadCrease) "__getattribute__" = some (some (.builtin "BaseException.__getattribute__"))) (fBadCrease_gt : PySem.W.findIn K (.ref dBadCrease) "__getattr__" = some none) (fBadCrease_at : PySem.W.findIn K (.ref dBadCrease) "__class__" = some (some (.builtin "object.__class__"))) (fBadCrease_mro : PySem.W.mroIn K dBadCrease (.type "object") = some true) (fBadCrease_is : (PySem.W.clsIn K dBadCrease).isSome = true) (fBadCrease_BadFolds : PySem.W.kitOne K (.ref dBadCrease) (.ref dBadFolds) = some false) (fBadCrease_BadSteps : PySem.W.kitOne K (.ref dBadCrease) (.ref dBadSteps) = some false) (fBadCrease_BadTurns : PySem.W.kitOne K (.ref dBadCrease) (.ref dBadTurns) = some false) (fBadCrease_V : PySem.W.kitOne K (.ref dBadCrease) (.type "ValueError") = some true) (fBadSteps_ga : PySem.W.findIn K (.ref dBadSteps) "__getattribute__" = some (some (.builtin "BaseException.__getattribute__"))) (fBadSteps_gt : PySem.W.findIn K (.ref dBadSteps) "__getattr__" = some none) (fBadSteps_at : PySem.W.findIn K (.ref dBadSteps) "__class__" = some (some (.builtin "object.__class__"))) (fBadSteps_mro : PySem.W.mroIn K dBadSteps (.type "object") = some true) (fBadSteps_is : (PySem.W.clsIn K dBadSteps).isSome = true) (fBadSteps_BadFolds : PySem.W.kitOne K (.ref dBadSteps) (.ref dBadFolds) = some false) (fBadSteps_BadCrease : PySem.W.kitOne K (.ref dBadSteps) (.ref dBadCrease) = some false) (fBadSteps_BadTurns : PySem.W.kitOne K (.ref dBadSteps) (.ref dBadTurns) = some false) (fBadSteps_V : PySem.W.kitOne K (.ref dBadSteps) (.type "ValueError") = some true) (fBadTurns_ga : PySem.W.findIn K (.ref dBadTurns) "__getattribute__" = some (some (.builtin "BaseException.__getattribute__"))) (fBadTurns_gt : PySem.W.findIn K (.ref dBadTurns) "__getattr__" = some none) (fBadTurns_at : PySem.W.findIn K (.ref dBadTurns) "__class__" = some (some (.builtin "object.__class__"))) (fBadTurns_mro : PySem.W.mroIn K dBadTurns (.type "object") = some true) (fBadTurns_is : (PySem.W.clsIn K dBadTurns).isSome = true) (fBadTurns_BadFolds : PySem.W.kitOne K (.ref dBadTurns) (.ref dBadFolds) = some false) (fBadTurns_BadCrease : PySem.W.kitOne K (.ref dBadTurns) (.ref dBadCrease) = some false) (fBadTurns_BadSteps : PySem.W.kitOne K (.ref dBadTurns) (.ref dBadSteps) = some false) (fBadTurns_V : PySem.W.kitOne K (.ref dBadTurns) (.type "ValueError") = some true) : Txt P w K mg dFoldError dBadFolds dBadCrease dBadSteps dBadTurns dOTHER dQUARTERS dSTEPS a0 a1 a2 a3 where
  ValueError_ := PySem.W.mg_none_of X G e1
  len_ := PySem.W.mg_none_of X G e2
  isinstance_ := PySem.W.mg_none_of X G e3
  str_ := PySem.W.mg_none_of X G e4
  int_ := PySem.W.mg_none_of X G e5
  bool_ := PySem.W.mg_none_of X G e6
  range_ := PySem.W.mg_none_of X G e7
  all_ := PySem.W.mg_none_of X G e8
  enumerate_ := PySem.W.mg_none_of X G e9
  OTHER := PySem.W.mg_of X G e10
  OTHER_tab := fun _ Y => PySem.W.kt_tab_in P w Y t1OTHER (by decide +kernel) t2OTHER
  QUARTERS := PySem.W.mg_of X G e11
  QUARTERS_tab := fun _ Y => PySem.W.kt_tab_in P w Y t1QUARTERS (by decide +kernel) t2QUARTERS
  STEPS := PySem.W.mg_of X G e12
  STEPS_tup := ⟨_, _, _, qS, rfl, rfl, small (Nat.le_of_ble_eq_true rfl), .cons rfl (.cons rfl (.cons rfl (.cons rfl .nil)))⟩
  st0 := ⟨_, _, _, q0, rfl, rfl, small (Nat.le_of_ble_eq_true rfl), .cons ⟨_, rfl⟩ (.cons ⟨_, rfl⟩ .nil)⟩
  st1 := ⟨_, _, _, q1, rfl, rfl, small (Nat.le_of_ble_eq_true rfl), .cons ⟨_, rfl⟩ (.cons ⟨_, rfl⟩ .nil)⟩
  st2 := ⟨_, _, _, q2, rfl, rfl, small (Nat.le_of_ble_eq_true rfl), .cons ⟨_, rfl⟩ (.cons ⟨_, rfl⟩ .nil)⟩
  st3 := ⟨_, _, _, q3, rfl, rfl, small (Nat.le_of_ble_eq_true rfl), .cons ⟨_, rfl⟩ (.cons ⟨_, rfl⟩ .nil)⟩
  ib := ib_mk i1
  FoldError := PySem.W.mg_of X G e13
  BadFolds := PySem.W.mg_of X G e14
  BadCrease := PySem.W.mg_of X G e15
  BadSteps := PySem.W.mg_of X G e16
  BadTurns := PySem.W.mg_of X G e17
  BadFolds_x := xBadFolds
  BadFolds_FoldError := mBadFoldsFoldError
  BadCrease_x := xBadCrease
  BadCrease_FoldError := mBadCreaseFoldError
  BadSteps_x := xBadSteps
  BadSteps_FoldError := mBadStepsFoldError
  BadTurns_x := xBadTurns
  BadTurns_FoldError := mBadTurnsFoldError
  s_NoneType := fs_NoneType
  s_int := fs_int
  s_bool := fs_bool
  s_list := fs_list
  s_tuple := fs_tuple
  i_NoneType := fi_NoneType
  i_str := fi_str
  i_list := fi_list
  i_tuple := fi_tuple
  i_bool := fi_bool
  oc_get := foc_get
  oc_tk := foc_tk
  BadFolds_ga := fBadFolds_ga
  BadFolds_gt := fBadFolds_gt
  BadFolds_at := fBadFolds_at
  BadFolds_mro := fBadFolds_mro
  BadFolds_is := fBadFolds_is
  BadFolds_BadCrease := fBadFolds_BadCrease
  BadFolds_BadSteps := fBadFolds_BadSteps
  BadFolds_BadTurns := fBadFolds_BadTurns
  BadFolds_V := fBadFolds_V
  BadCrease_ga := fBadCrease_ga
  BadCrease_gt := fBadCrease_gt
  BadCrease_at := fBadCrease_at
  BadCrease_mro := fBadCrease_mro
  BadCrease_is := fBadCrease_is
  BadCrease_BadFolds := fBadCrease_BadFolds
  BadCrease_BadSteps := fBadCrease_BadSteps
  BadCrease_BadTurns := fBadCrease_BadTurns
  BadCrease_V := fBadCrease_V
  BadSteps_ga := fBadSteps_ga
  BadSteps_gt := fBadSteps_gt
  BadSteps_at := fBadSteps_at
  BadSteps_mro := fBadSteps_mro
  BadSteps_is := fBadSteps_is
  BadSteps_BadFolds := fBadSteps_BadFolds
  BadSteps_BadCrease := fBadSteps_BadCrease
  BadSteps_BadTurns := fBadSteps_BadTurns
  BadSteps_V := fBadSteps_V
  BadTurns_ga := fBadTurns_ga
  BadTurns_gt := fBadTurns_gt
  BadTurns_at := fBadTurns_at
  BadTurns_mro := fBadTurns_mro
  BadTurns_is := fBadTurns_is
  BadTurns_BadFolds := fBadTurns_BadFolds
  BadTurns_BadCrease := fBadTurns_BadCrease
  BadTurns_BadSteps := fBadTurns_BadSteps
  BadTurns_V := fBadTurns_V
theorem fin {l : PySem.W.OpenLaw} {w : World} {K : PySem.W.Frag} {mg : PySem.Str → Option Value} {fa dFoldError dBadFolds dBadCrease dBadSteps dBadTurns dOTHER dQUARTERS dSTEPS a0 a1 a2 a3 : Addr} (hfa : mg "law" = some (.ref fa)) (T : Txt l.prog w K mg dFoldError dBadFolds dBadCrease dBadSteps dBadTurns dOTHER dQUARTERS dSTEPS a0 a1 a2 a3)
   (d_law_cell_at : Df K mg "_law_cell_at" s_law_cell_at ["_law_script", "_law_k"]) (d_law_draw : Df K mg "_law_draw" s_law_draw ["_law_cell", "_law_k", "_law_many"]) (d_law_folds : Df K mg "_law_folds" s_law_folds ["_law_script", "_law_by"]) (d_law_kinds : Df K mg "_law_kinds" s_law_kinds ["_law_error"]) (d_law_told : Df K mg "_law_told" s_law_told ["_law_ask", "_law_one", "_law_other_here"]) (d_law_all : Df K mg "_law_all" s_law_all ["_law_ask", "_law_one", "_law_things", "_law_due"]) (d_crease_X : Df K mg "crease" s_crease_X ["folds", "count"]) (d_exchanged_X : Df K mg "exchanged" s_exchanged_X ["folds"]) (d_backwards_X : Df K mg "backwards" s_backwards_X ["folds"]) (d_heading_X : Df K mg "heading" s_heading_X ["folds", "many"]) (d_law_with_folds : Df K mg "_law_with_folds" s_law_with_folds ["_law_door", "_law_folds_here"]) (d_law_with_crease : Df K mg "_law_with_crease" s_law_with_crease ["_law_folds_here", "_law_count"]) (d_law_with_lefts : Df K mg "_law_with_lefts" s_law_with_lefts ["_law_folds_here", "_law_count"]) (d_law_with_steps : Df K mg "_law_with_steps" s_law_with_steps ["_law_folds_here", "_law_many"]) (d_law_with_heading : Df K mg "_law_with_heading" s_law_with_heading ["_law_folds_here", "_law_many"]) (d_law_row : Df K mg "_law_row" s_law_row ["_law_folds_here", "_law_pair"]) (d_is_turns_X : Df K mg "is_turns" s_is_turns_X ["value"]) (d_need_turns_X : Df K mg "need_turns" s_need_turns_X ["turns"]) (d_is_count_X : Df K mg "is_count" s_is_count_X ["value"]) (d_need_count_X : Df K mg "need_count" s_need_count_X ["first"]) (d_told_X : Df K mg "told" s_told_X ["turns", "first"]) (d_law_with_turns : Df K mg "_law_with_turns" s_law_with_turns ["_law_turns", "_law_first"]) (d_is_letters : Df K mg "is_letters" s_is_letters ["value"]) (d_need_folds : Df K mg "need_folds" s_need_folds ["folds"]) (d_steps : Df K mg "steps" s_steps ["folds"]) (d_is_whole : Df K mg "is_whole" s_is_whole ["value"]) (d_part_of : Df K mg "part_of" s_part_of ["count"]) (d_in_turn : Df K mg "in_turn" s_in_turn ["letter", "count"]) (d_way_of : Df K mg "way_of" s_way_of ["folds", "count"]) (d_creases : Df K mg "creases" s_creases ["folds", "first", "many"]) (d_lefts : Df K mg "lefts" s_lefts ["folds", "many"]) (d_need_many : Df K mg "need_many" s_need_many ["folds", "many"]) (d_with_corners : Df K mg "with_corners" s_with_corners ["spot", "quarter"]) (d_one_further : Df K mg "one_further" s_one_further ["spot", "quarters"]) (d_place : Df K mg "place" s_place ["folds", "many"]) (d_law : Df K mg "law" s_law ["_law_script"]) :
    ∃ fd : FuncData, (∀ (s : Shared) (v : Value), BindsTo s fd ⟨[v], []⟩ [("_law_script", v)]) ∧ ∀ base : Heap, K.In base → base.Ns mainGlobals mg → FnOk l.prog w K mg base CX0 10 fa fd ["_law_script"] (sp_law K) := by
  obtain ⟨f, fd, F, b, m⟩ := d_law
  have e := hfa.symm.trans m
  cases e
  refine ⟨fd, fun s v => ?_, fun base _ _ => ?_⟩
  · obtain ⟨oc, od, kV, doc, pm, an, cdv, ct, osl, rfl, lk, hcd⟩ := F.ex
    exact .of_eq rfl
  have c_law_cell_at := has_law_cell_at (P := l.prog) (w := w) (base := base) d_law_cell_at T 
  have c_law_draw := has_law_draw (P := l.prog) (w := w) (base := base) d_law_draw T 
  have c_law_folds := has_law_folds (P := l.prog) (w := w) (base := base) d_law_folds T c_law_draw c_law_cell_at
  have c_law_kinds := has_law_kinds (P := l.prog) (w := w) (base := base) d_law_kinds T 
  have c_law_told := has_law_told (P := l.prog) (w := w) (base := base) d_law_told T c_law_kinds
  have c_law_all := has_law_all (P := l.prog) (w := w) (base := base) d_law_all T c_law_told
  have c_is_letters_X := has_is_letters_X (P := l.prog) (w := w) (base := base) d_is_letters T 
  have c_need_folds_X := has_need_folds_X (P := l.prog) (w := w) (base := base) d_need_folds T c_is_letters_X
  have c_steps_X := has_steps_X (P := l.prog) (w := w) (base := base) d_steps T c_need_folds_X
  have c_is_whole_X := has_is_whole_X (P := l.prog) (w := w) (base := base) d_is_whole T 
  have c_crease_X := has_crease_X (P := l.prog) (w := w) (base := base) d_crease_X T c_steps_X c_is_whole_X
  have c_lefts_X := has_lefts_X (P := l.prog) (w := w) (base := base) d_lefts T c_steps_X c_is_whole_X
  have c_creases_X := has_creases_X (P := l.prog) (w := w) (base := base) d_creases T c_steps_X c_is_whole_X
  have c_exchanged_X := has_exchanged_X (P := l.prog) (w := w) (base := base) d_exchanged_X T c_need_folds_X
  have c_backwards_X := has_backwards_X (P := l.prog) (w := w) (base := base) d_backwards_X T c_need_folds_X
  have c_need_many_X := has_need_many_X (P := l.prog) (w := w) (base := base) d_need_many T c_steps_X c_is_whole_X
  have c_place_X := has_place_X (P := l.prog) (w := w) (base := base) d_place T c_need_many_X
  have c_heading_X := has_heading_X (P := l.prog) (w := w) (base := base) d_heading_X T c_need_many_X
  have c_law_with_folds := has_law_with_folds (P := l.prog) (w := w) (base := base) d_law_with_folds T c_crease_X c_lefts_X c_creases_X c_steps_X c_exchanged_X c_backwards_X c_place_X c_heading_X
  have c_law_with_crease := has_law_with_crease (P := l.prog) (w := w) (base := base) d_law_with_crease T c_crease_X
  have c_law_with_lefts := has_law_with_lefts (P := l.prog) (w := w) (base := base) d_law_with_lefts T c_lefts_X
  have c_law_with_steps := has_law_with_steps (P := l.prog) (w := w) (base := base) d_law_with_steps T c_place_X
  have c_law_with_heading := has_law_with_heading (P := l.prog) (w := w) (base := base) d_law_with_heading T c_heading_X
  have c_law_row := has_law_row (P := l.prog) (w := w) (base := base) d_law_row T c_creases_X
  have c_is_turns_X := has_is_turns_X (P := l.prog) (w := w) (base := base) d_is_turns_X T c_is_letters_X
  have c_need_turns_X := has_need_turns_X (P := l.prog) (w := w) (base := base) d_need_turns_X T c_is_turns_X
  have c_is_count_X := has_is_count_X (P := l.prog) (w := w) (base := base) d_is_count_X T c_is_whole_X
  have c_need_count_X := has_need_count_X (P := l.prog) (w := w) (base := base) d_need_count_X T c_is_count_X
  have c_told_X := has_told_X (P := l.prog) (w := w) (base := base) d_told_X T c_need_turns_X c_need_count_X
  have c_law_with_turns := has_law_with_turns (P := l.prog) (w := w) (base := base) d_law_with_turns T c_told_X
  have c_is_letters := has_is_letters (P := l.prog) (w := w) (base := base) d_is_letters T 
  have c_need_folds := has_need_folds (P := l.prog) (w := w) (base := base) d_need_folds T c_is_letters
  have c_steps := has_steps (P := l.prog) (w := w) (base := base) d_steps T c_need_folds
  have c_is_whole := has_is_whole (P := l.prog) (w := w) (base := base) d_is_whole T 
  have c_part_of := has_part_of (P := l.prog) (w := w) (base := base) d_part_of T 
  have c_in_turn := has_in_turn (P := l.prog) (w := w) (base := base) d_in_turn T c_part_of
  have c_way_of := has_way_of (P := l.prog) (w := w) (base := base) d_way_of T c_part_of c_in_turn
  have c_creases := has_creases (P := l.prog) (w := w) (base := base) d_creases T c_steps c_is_whole c_way_of
  have c_lefts := has_lefts (P := l.prog) (w := w) (base := base) d_lefts T c_steps c_is_whole
  have c_need_many := has_need_many (P := l.prog) (w := w) (base := base) d_need_many T c_steps c_is_whole
  have c_with_corners := has_with_corners (P := l.prog) (w := w) (base := base) d_with_corners T 
  have c_one_further := has_one_further (P := l.prog) (w := w) (base := base) d_one_further T 
  have c_place := has_place (P := l.prog) (w := w) (base := base) d_place T c_need_many c_with_corners c_one_further
  exact ok_law F T c_law_cell_at c_law_folds c_law_draw c_law_all c_law_told c_law_with_folds c_law_with_crease c_law_with_lefts c_law_with_steps c_law_with_heading c_law_row c_law_with_turns c_creases c_lefts c_place
theorem walk {l : PySem.W.OpenLaw} {q : Program} {loose : List PySem.Str} {XP : (PySem.Str → Option Value) → Heap → Prop} {YP : World → Heap → Prop} {d : DefRec} {K : Params → PySem.W.Frag} (hn : l.most = some 63) (hdf : d.params.defaults = [])
    (hY : ∀ (w : World) (h : Heap), YP w h → (K w.params).In h)
    (F : ∀ (w : World) (mg : PySem.Str → Option Value) (fa : Addr) (h : Heap), (K w.params).In h → h.Ns mainGlobals mg → mg d.name = some (.ref fa) →
      ∃ fd : FuncData, (∀ (s : Shared) (u : Value), BindsTo s fd ⟨[u], []⟩ [("_law_script", u)]) ∧ ∀ base : Heap, (K w.params).In base → base.Ns mainGlobals mg → FnOk l.prog w (K w.params) mg base CX0 10 fa fd ["_law_script"] (sp_law (K w.params))) :
    PySem.W.WalkO q loose XP YP l.row.toRowW d [] (fun f vs => PySem.call f vs) :=
  L2.walk_of (n := 63) (k := 10) (x := "_law_script") (CX := fun _ => CX0) (sp := fun w => sp_law (K w.params)) hn (by decide) hdf ⟨rfl, by decide, by decide⟩ hY F (fun _ _ a ns hl _ hS => ⟨a, ns, rfl, hS, hl, fun _ => rfl⟩) fun _ _ _ _ _ z => z
end Fc
def PySem.W.Fast.tw9815895037205226860 : Unit := ()
def PySem.W.Fast.tw813607527021405570 : Unit := ()
open PySem PySem.W PyProof.Rows
set_option maxRecDepth 100000 in
set_option maxHeartbeats 0 in
theorem PySem.Challenge.cw_foldcurve_k07_refused_holds : PySem.Challenge.rw_foldcurve_k07_refused.Holds := by
  w_on; o_law; k_head; (case hw => w_witness2)
  k_fill
  refine Fc.walk (l := PySem.Challenge.rw_foldcurve_k07_refused) rfl rfl (fun w h Y => PySem.W.kIn_of Y) ?F
  case F =>
    intro w mg fa h KX G hmg
    refine' Fc.fin hmg (Fc.txt_mk KX G ?e1 ?e2 ?e3 ?e4 ?e5 ?e6 ?e7 ?e8 ?e9 ?e10 ?t1OTHER ?t2OTHER ?e11 ?t1QUARTERS ?t2QUARTERS ?e12 ?qS ?q0 ?q1 ?q2 ?q3 ?i1 ?e13 ?e14 ?e15 ?e16 ?e17 ?xBadFolds ?mBadFoldsFoldError ?xBadCrease ?mBadCreaseFoldError ?xBadSteps ?mBadStepsFoldError ?xBadTurns ?mBadTurnsFoldError ?fs_NoneType ?fs_int ?fs_bool ?fs_list ?fs_tuple ?fi_NoneType ?fi_str ?fi_list ?fi_tuple ?fi_bool ?foc_get ?foc_tk ?fBadFolds_ga ?fBadFolds_gt ?fBadFolds_at ?fBadFolds_mro ?fBadFolds_is ?fBadFolds_BadCrease ?fBadFolds_BadSteps ?fBadFolds_BadTurns ?fBadFolds_V ?fBadCrease_ga ?fBadCrease_gt ?fBadCrease_at ?fBadCrease_mro ?fBadCrease_is ?fBadCrease_BadFolds ?fBadCrease_BadSteps ?fBadCrease_BadTurns ?fBadCrease_V ?fBadSteps_ga ?fBadSteps_gt ?fBadSteps_at ?fBadSteps_mro ?fBadSteps_is ?fBadSteps_BadFolds ?fBadSteps_BadCrease ?fBadSteps_BadTurns ?fBadSteps_V ?fBadTurns_ga ?fBadTurns_gt ?fBadTurns_at ?fBadTurns_mro ?fBadTurns_is ?fBadTurns_BadFolds ?fBadTurns_BadCrease ?fBadTurns_BadSteps ?fBadTurns_V) (Fc.df_mk KX G ?a0 ?l0 ?c0 ?k0 ?b0) (Fc.df_mk KX G ?a1 ?l1 ?c1 ?k1 ?b1) (Fc.df_mk KX G ?a2 ?l2 ?c2 ?k2 ?b2) (Fc.df_mk KX G ?a3 ?l3 ?c3 ?k3 ?b3) (Fc.df_mk KX G ?a4 ?l4 ?c4 ?k4 ?b4) (Fc.df_mk KX G ?a5 ?l5 ?c5 ?k5 ?b5) (Fc.df_mk KX G ?a6 ?l6 ?c6 ?k6 ?b6) (Fc.df_mk KX G ?a7 ?l7 ?c7 ?k7 ?b7) (Fc.df_mk KX G ?a8 ?l8 ?c8 ?k8 ?b8) (Fc.df_mk KX G ?a9 ?l9 ?c9 ?k9 ?b9) (Fc.df_mk KX G ?a10 ?l10 ?c10 ?k10 ?b10) (Fc.df_mk KX G ?a11 ?l11 ?c11 ?k11 ?b11) (Fc.df_mk KX G ?a12 ?l12 ?c12 ?k12 ?b12) (Fc.df_mk KX G ?a13 ?l13 ?c13 ?k13 ?b13) (Fc.df_mk KX G ?a14 ?l14 ?c14 ?k14 ?b14) (Fc.df_mk KX G ?a15 ?l15 ?c15 ?k15 ?b15) (Fc.df_mk KX G ?a16 ?l16 ?c16 ?k16 ?b16) (Fc.df_mk KX G ?a17 ?l17 ?c17 ?k17 ?b17) (Fc.df_mk KX G ?a18 ?l18 ?c18 ?k18 ?b18) (Fc.df_mk KX G ?a19 ?l19 ?c19 ?k19 ?b19) (Fc.df_mk KX G ?a20 ?l20 ?c20 ?k20 ?b20) (Fc.df_mk KX G ?a21 ?l21 ?c21 ?k21 ?b21) (Fc.df_mk KX G ?a22 ?l22 ?c22 ?k22 ?b22) (Fc.df_mk KX G ?a23 ?l23 ?c23 ?k23 ?b23) (Fc.df_mk KX G ?a24 ?l24 ?c24 ?k24 ?b24) (Fc.df_mk KX G ?a25 ?l25 ?c25 ?k25 ?b25) (Fc.df_mk KX G ?a26 ?l26 ?c26 ?k26 ?b26) (Fc.df_mk KX G ?a27 ?l27 ?c27 ?k27 ?b27) (Fc.df_mk KX G ?a28 ?l28 ?c28 ?k28 ?b28) (Fc.df_mk KX G ?a29 ?l29 ?c29 ?k29 ?b29) (Fc.df_mk KX G ?a30 ?l30 ?c30 ?k30 ?b30) (Fc.df_mk KX G ?a31 ?l31 ?c31 ?k31 ?b31) (Fc.df_mk KX G ?a32 ?l32 ?c32 ?k32 ?b32) (Fc.df_mk KX G ?a33 ?l33 ?c33 ?k33 ?b33) (Fc.df_mk KX G ?a34 ?l34 ?c34 ?k34 ?b34) (Fc.df_mk KX G ?a35 ?l35 ?c35 ?k35 ?b35)
    (case e1 => k_is)
    (case e2 => k_is)
    (case e3 => k_is)
    (case e4 => k_is)
    (case e5 => k_is)
    (case e6 => k_is)
    (case e7 => k_is)
    (case e8 => k_is)
    (case e9 => k_is)
    (case e10 => k_is)
    (case t1OTHER => kernel_rfl)
    (case t2OTHER => kernel_rfl)
    (case e11 => k_is)
    (case t1QUARTERS => kernel_rfl)
    (case t2QUARTERS => kernel_rfl)
    (case e12 => k_is)
    (case qS => k_is)
    (case q0 => k_is)
    (case q1 => k_is)
    (case q2 => k_is)
    (case q3 => k_is)
    (case i1 => k_is)
    (case e13 => k_is)
    (case e14 => k_is)
    (case e15 => k_is)
    (case e16 => k_is)
    (case e17 => k_is)
    (case xBadFolds => k_exc)
    (case mBadFoldsFoldError => first | k_is | kernel_rfl)
    (case xBadCrease => k_exc)
    (case mBadCreaseFoldError => first | k_is | kernel_rfl)
    (case xBadSteps => k_exc)
    (case mBadStepsFoldError => first | k_is | kernel_rfl)
    (case xBadTurns => k_exc)
    (case mBadTurnsFoldError => first | k_is | kernel_rfl)
    (case fs_NoneType => first | k_is | kernel_rfl)
    (case fs_int => first | k_is | kernel_rfl)
    (case fs_bool => first | k_is | kernel_rfl)
    (case fs_list => first | k_is | kernel_rfl)
    (case fs_tuple => first | k_is | kernel_rfl)
    (case fi_NoneType => first | k_is | kernel_rfl)
    (case fi_str => first | k_is | kernel_rfl)
    (case fi_list => first | k_is | kernel_rfl)
    (case fi_tuple => first | k_is | kernel_rfl)
    (case fi_bool => first | k_is | kernel_rfl)
    (case foc_get => k_is)
    (case foc_tk => k_is)
    (case fBadFolds_ga => k_is)
    (case fBadFolds_gt => k_is)
    (case fBadFolds_at => k_is)
    (case fBadFolds_mro => k_is)
    (case fBadFolds_is => first | k_is | kernel_rfl)
    (case fBadFolds_BadCrease => first | k_is | kernel_rfl)
    (case fBadFolds_BadSteps => first | k_is | kernel_rfl)
    (case fBadFolds_BadTurns => first | k_is | kernel_rfl)
    (case fBadFolds_V => first | k_is | kernel_rfl)
    (case fBadCrease_ga => k_is)
    (case fBadCrease_gt => k_is)
    (case fBadCrease_at => k_is)
    (case fBadCrease_mro => k_is)
    (case fBadCrease_is => first | k_is | kernel_rfl)
    (case fBadCrease_BadFolds => first | k_is | kernel_rfl)
    (case fBadCrease_BadSteps => first | k_is | kernel_rfl)
    (case fBadCrease_BadTurns => first | k_is | kernel_rfl)
    (case fBadCrease_V => first | k_is | kernel_rfl)
    (case fBadSteps_ga => k_is)
    (case fBadSteps_gt => k_is)
    (case fBadSteps_at => k_is)
    (case fBadSteps_mro => k_is)
    (case fBadSteps_is => first | k_is | kernel_rfl)
    (case fBadSteps_BadFolds => first | k_is | kernel_rfl)
    (case fBadSteps_BadCrease => first | k_is | kernel_rfl)
    (case fBadSteps_BadTurns => first | k_is | kernel_rfl)
    (case fBadSteps_V => first | k_is | kernel_rfl)
    (case fBadTurns_ga => k_is)
    (case fBadTurns_gt => k_is)
    (case fBadTurns_at => k_is)
    (case fBadTurns_mro => k_is)
    (case fBadTurns_is => first | k_is | kernel_rfl)
    (case fBadTurns_BadFolds => first | k_is | kernel_rfl)
    (case fBadTurns_BadCrease => first | k_is | kernel_rfl)
    (case fBadTurns_BadSteps => first | k_is | kernel_rfl)
    (case fBadTurns_V => first | k_is | kernel_rfl)
    (case a0 => k_is); (case l0 => k_is); (case c0 => k_is); (case k0 => k_is); (case b0 => exact fun _ _ _ _ _ _ us hl => Fc.bindsN2 (f := fun us => bindArgs _ ⟨us, []⟩) (g := fun us => pure (List.zip _ us)) hl (by intros; rfl))
    (case a1 => k_is); (case l1 => k_is); (case c1 => k_is); (case k1 => k_is); (case b1 => exact fun _ _ _ _ _ _ us hl => Fc.bindsN3 (f := fun us => bindArgs _ ⟨us, []⟩) (g := fun us => pure (List.zip _ us)) hl (by intros; rfl))
    (case a2 => k_is); (case l2 => k_is); (case c2 => k_is); (case k2 => k_is); (case b2 => exact fun _ _ _ _ _ _ us hl => Fc.bindsN2 (f := fun us => bindArgs _ ⟨us, []⟩) (g := fun us => pure (List.zip _ us)) hl (by intros; rfl))
    (case a3 => k_is); (case l3 => k_is); (case c3 => k_is); (case k3 => k_is); (case b3 => exact fun _ _ _ _ _ _ us hl => Fc.bindsN1 (f := fun us => bindArgs _ ⟨us, []⟩) (g := fun us => pure (List.zip _ us)) hl (by intros; rfl))
    (case a4 => k_is); (case l4 => k_is); (case c4 => k_is); (case k4 => k_is); (case b4 => exact fun _ _ _ _ _ _ us hl => Fc.bindsN3 (f := fun us => bindArgs _ ⟨us, []⟩) (g := fun us => pure (List.zip _ us)) hl (by intros; rfl))
    (case a5 => k_is); (case l5 => k_is); (case c5 => k_is); (case k5 => k_is); (case b5 => exact fun _ _ _ _ _ _ us hl => Fc.bindsN4 (f := fun us => bindArgs _ ⟨us, []⟩) (g := fun us => pure (List.zip _ us)) hl (by intros; rfl))
    (case a6 => k_is); (case l6 => k_is); (case c6 => k_is); (case k6 => k_is); (case b6 => exact fun _ _ _ _ _ _ us hl => Fc.bindsN2 (f := fun us => bindArgs _ ⟨us, []⟩) (g := fun us => pure (List.zip _ us)) hl (by intros; rfl))
    (case a7 => k_is); (case l7 => k_is); (case c7 => k_is); (case k7 => k_is); (case b7 => exact fun _ _ _ _ _ _ us hl => Fc.bindsN1 (f := fun us => bindArgs _ ⟨us, []⟩) (g := fun us => pure (List.zip _ us)) hl (by intros; rfl))
    (case a8 => k_is); (case l8 => k_is); (case c8 => k_is); (case k8 => k_is); (case b8 => exact fun _ _ _ _ _ _ us hl => Fc.bindsN1 (f := fun us => bindArgs _ ⟨us, []⟩) (g := fun us => pure (List.zip _ us)) hl (by intros; rfl))
    (case a9 => k_is); (case l9 => k_is); (case c9 => k_is); (case k9 => k_is); (case b9 => exact fun _ _ _ _ _ _ us hl => Fc.bindsN2 (f := fun us => bindArgs _ ⟨us, []⟩) (g := fun us => pure (List.zip _ us)) hl (by intros; rfl))
    (case a10 => k_is); (case l10 => k_is); (case c10 => k_is); (case k10 => k_is); (case b10 => exact fun _ _ _ _ _ _ us hl => Fc.bindsN2 (f := fun us => bindArgs _ ⟨us, []⟩) (g := fun us => pure (List.zip _ us)) hl (by intros; rfl))
    (case a11 => k_is); (case l11 => k_is); (case c11 => k_is); (case k11 => k_is); (case b11 => exact fun _ _ _ _ _ _ us hl => Fc.bindsN2 (f := fun us => bindArgs _ ⟨us, []⟩) (g := fun us => pure (List.zip _ us)) hl (by intros; rfl))
    (case a12 => k_is); (case l12 => k_is); (case c12 => k_is); (case k12 => k_is); (case b12 => exact fun _ _ _ _ _ _ us hl => Fc.bindsN2 (f := fun us => bindArgs _ ⟨us, []⟩) (g := fun us => pure (List.zip _ us)) hl (by intros; rfl))
    (case a13 => k_is); (case l13 => k_is); (case c13 => k_is); (case k13 => k_is); (case b13 => exact fun _ _ _ _ _ _ us hl => Fc.bindsN2 (f := fun us => bindArgs _ ⟨us, []⟩) (g := fun us => pure (List.zip _ us)) hl (by intros; rfl))
    (case a14 => k_is); (case l14 => k_is); (case c14 => k_is); (case k14 => k_is); (case b14 => exact fun _ _ _ _ _ _ us hl => Fc.bindsN2 (f := fun us => bindArgs _ ⟨us, []⟩) (g := fun us => pure (List.zip _ us)) hl (by intros; rfl))
    (case a15 => k_is); (case l15 => k_is); (case c15 => k_is); (case k15 => k_is); (case b15 => exact fun _ _ _ _ _ _ us hl => Fc.bindsN2 (f := fun us => bindArgs _ ⟨us, []⟩) (g := fun us => pure (List.zip _ us)) hl (by intros; rfl))
    (case a16 => k_is); (case l16 => k_is); (case c16 => k_is); (case k16 => k_is); (case b16 => exact fun _ _ _ _ _ _ us hl => Fc.bindsN1 (f := fun us => bindArgs _ ⟨us, []⟩) (g := fun us => pure (List.zip _ us)) hl (by intros; rfl))
    (case a17 => k_is); (case l17 => k_is); (case c17 => k_is); (case k17 => k_is); (case b17 => exact fun _ _ _ _ _ _ us hl => Fc.bindsN1 (f := fun us => bindArgs _ ⟨us, []⟩) (g := fun us => pure (List.zip _ us)) hl (by intros; rfl))
    (case a18 => k_is); (case l18 => k_is); (case c18 => k_is); (case k18 => k_is); (case b18 => exact fun _ _ _ _ _ _ us hl => Fc.bindsN1 (f := fun us => bindArgs _ ⟨us, []⟩) (g := fun us => pure (List.zip _ us)) hl (by intros; rfl))
    (case a19 => k_is); (case l19 => k_is); (case c19 => k_is); (case k19 => k_is); (case b19 => exact fun _ _ _ _ _ _ us hl => Fc.bindsN1 (f := fun us => bindArgs _ ⟨us, []⟩) (g := fun us => pure (List.zip _ us)) hl (by intros; rfl))
    (case a20 => k_is); (case l20 => k_is); (case c20 => k_is); (case k20 => k_is); (case b20 => exact fun _ _ _ _ _ _ us hl => Fc.bindsN2 (f := fun us => bindArgs _ ⟨us, []⟩) (g := fun us => pure (List.zip _ us)) hl (by intros; rfl))
    (case a21 => k_is); (case l21 => k_is); (case c21 => k_is); (case k21 => k_is); (case b21 => exact fun _ _ _ _ _ _ us hl => Fc.bindsN2 (f := fun us => bindArgs _ ⟨us, []⟩) (g := fun us => pure (List.zip _ us)) hl (by intros; rfl))
    (case a22 => k_is); (case l22 => k_is); (case c22 => k_is); (case k22 => k_is); (case b22 => exact fun _ _ _ _ _ _ us hl => Fc.bindsN1 (f := fun us => bindArgs _ ⟨us, []⟩) (g := fun us => pure (List.zip _ us)) hl (by intros; rfl))
    (case a23 => k_is); (case l23 => k_is); (case c23 => k_is); (case k23 => k_is); (case b23 => exact fun _ _ _ _ _ _ us hl => Fc.bindsN1 (f := fun us => bindArgs _ ⟨us, []⟩) (g := fun us => pure (List.zip _ us)) hl (by intros; rfl))
    (case a24 => k_is); (case l24 => k_is); (case c24 => k_is); (case k24 => k_is); (case b24 => exact fun _ _ _ _ _ _ us hl => Fc.bindsN1 (f := fun us => bindArgs _ ⟨us, []⟩) (g := fun us => pure (List.zip _ us)) hl (by intros; rfl))
    (case a25 => k_is); (case l25 => k_is); (case c25 => k_is); (case k25 => k_is); (case b25 => exact fun _ _ _ _ _ _ us hl => Fc.bindsN1 (f := fun us => bindArgs _ ⟨us, []⟩) (g := fun us => pure (List.zip _ us)) hl (by intros; rfl))
    (case a26 => k_is); (case l26 => k_is); (case c26 => k_is); (case k26 => k_is); (case b26 => exact fun _ _ _ _ _ _ us hl => Fc.bindsN1 (f := fun us => bindArgs _ ⟨us, []⟩) (g := fun us => pure (List.zip _ us)) hl (by intros; rfl))
    (case a27 => k_is); (case l27 => k_is); (case c27 => k_is); (case k27 => k_is); (case b27 => exact fun _ _ _ _ _ _ us hl => Fc.bindsN2 (f := fun us => bindArgs _ ⟨us, []⟩) (g := fun us => pure (List.zip _ us)) hl (by intros; rfl))
    (case a28 => k_is); (case l28 => k_is); (case c28 => k_is); (case k28 => k_is); (case b28 => exact fun _ _ _ _ _ _ us hl => Fc.bindsN2 (f := fun us => bindArgs _ ⟨us, []⟩) (g := fun us => pure (List.zip _ us)) hl (by intros; rfl))
    (case a29 => k_is); (case l29 => k_is); (case c29 => k_is); (case k29 => k_is); (case b29 => exact fun _ _ _ _ _ _ us hl => Fc.bindsN3 (f := fun us => bindArgs _ ⟨us, []⟩) (g := fun us => pure (List.zip _ us)) hl (by intros; rfl))
    (case a30 => k_is); (case l30 => k_is); (case c30 => k_is); (case k30 => k_is); (case b30 => exact fun _ _ _ _ _ _ us hl => Fc.bindsN2 (f := fun us => bindArgs _ ⟨us, []⟩) (g := fun us => pure (List.zip _ us)) hl (by intros; rfl))
    (case a31 => k_is); (case l31 => k_is); (case c31 => k_is); (case k31 => k_is); (case b31 => exact fun _ _ _ _ _ _ us hl => Fc.bindsN2 (f := fun us => bindArgs _ ⟨us, []⟩) (g := fun us => pure (List.zip _ us)) hl (by intros; rfl))
    (case a32 => k_is); (case l32 => k_is); (case c32 => k_is); (case k32 => k_is); (case b32 => exact fun _ _ _ _ _ _ us hl => Fc.bindsN2 (f := fun us => bindArgs _ ⟨us, []⟩) (g := fun us => pure (List.zip _ us)) hl (by intros; rfl))
    (case a33 => k_is); (case l33 => k_is); (case c33 => k_is); (case k33 => k_is); (case b33 => exact fun _ _ _ _ _ _ us hl => Fc.bindsN2 (f := fun us => bindArgs _ ⟨us, []⟩) (g := fun us => pure (List.zip _ us)) hl (by intros; rfl))
    (case a34 => k_is); (case l34 => k_is); (case c34 => k_is); (case k34 => k_is); (case b34 => exact fun _ _ _ _ _ _ us hl => Fc.bindsN2 (f := fun us => bindArgs _ ⟨us, []⟩) (g := fun us => pure (List.zip _ us)) hl (by intros; rfl))
    (case a35 => k_is); (case l35 => k_is); (case c35 => k_is); (case k35 => k_is); (case b35 => exact fun _ _ _ _ _ _ us hl => Fc.bindsN1 (f := fun us => bindArgs _ ⟨us, []⟩) (g := fun us => pure (List.zip _ us)) hl (by intros; rfl))
#print axioms PySem.Challenge.cw_foldcurve_k07_refused_holds
