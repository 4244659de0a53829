import PyProof.Rows.All
import Wide.All
import OpenK.AllK
import Wide.FinOn
import PyProof.EqAt
import PyProof.EqKinds
import PyProof.TupleCall
import KE.BitLaws
import PySem.Challenge.RW_headswap_k14_powers
import KE.KLam
import KE.KTryMore
import KE.KCallOwn
import KE.KFmtOwn
import KE.KSortTupG
import KE.KDictList
import KE.RegKIsAll
set_option Elab.async false
set_option linter.all false
set_option maxRecDepth 100000
/-! THE HAND LAYER, for ints, bools, texts, own classes, lists, tuples, dicts, comprehensions, walks over dicts, enumerate, zip, reversed, texts, calls, loops. Paste it whole ahead of your own text; what your proof does not reach may be deleted. -/
namespace L2
open PySem PySem.Spec PyProof.Rows

/-- a key: an int or a str -/
abbrev Key := Sum Int Str
def keyIs : Key → Value → Bool
  | .inl k, v => Value.isInt k v
  | .inr x, v => Value.isStrOf x v
def keyH (w : World) : Key → Int
  | .inl k => hashInt k
  | .inr x => hashStr w x
theorem keyIs_shape : ∀ {k : Key} {v : Value}, keyIs k v = true → (∃ i t, k = Sum.inl i ∧ v = Value.int i t) ∨ (∃ x t, k = Sum.inr x ∧ v = Value.str x t)
  | .inl i, v, h => by
    obtain ⟨t, e⟩ := Value.isInt_shape (k := i) (v := v) h
    exact .inl ⟨i, t, rfl, e⟩
  | .inr x, v, h => by
    obtain ⟨t, e⟩ := Value.isStrOf_shape (x := x) (v := v) h
    exact .inr ⟨x, t, rfl, e⟩
theorem keyIs_int (i : Int) (t : Tok) : keyIs (.inl i) (.int i t) = true := by simp [keyIs, Value.isInt]
theorem keyIs_str (x : Str) (t : Tok) : keyIs (.inr x) (.str x t) = true := by simp [keyIs, Value.isStrOf]
theorem key_ll (a b : Int) : decide ((Sum.inl a : Key) = Sum.inl b) = (a == b) := by
  by_cases e : a = b
  · subst e; simp
  · have h : ¬ (Sum.inl a : Key) = Sum.inl b := fun q => e (Sum.inl.inj q)
    rw [decide_eq_false h]
    exact (beq_eq_false_iff_ne.mpr e).symm
theorem key_rr (a b : Str) : decide ((Sum.inr a : Key) = Sum.inr b) = decide (a = b) := by
  by_cases e : a = b
  · subst e; simp
  · have h : ¬ (Sum.inr a : Key) = Sum.inr b := fun q => e (Sum.inr.inj q)
    rw [decide_eq_false h, decide_eq_false e]
theorem key_lr (a : Int) (b : Str) : decide ((Sum.inl a : Key) = Sum.inr b) = false := decide_eq_false (fun q => nomatch q)
theorem key_rl (a : Str) (b : Int) : decide ((Sum.inr a : Key) = Sum.inl b) = false := decide_eq_false (fun q => nomatch q)

def mixKind (prog : Program) (w : World) : PySem.KeyKind prog w Key where
  is := keyIs
  hash := keyH w
  inj := fun v a b ha hb => by
    rcases keyIs_shape ha with ⟨i, t, rfl, rfl⟩ | ⟨x, t, rfl, rfl⟩
    · rcases keyIs_shape hb with ⟨j, u, rfl, e⟩ | ⟨y, u, rfl, e⟩
      · injection e with e1 _; rw [e1]
      · exact nomatch e
    · rcases keyIs_shape hb with ⟨j, u, rfl, e⟩ | ⟨y, u, rfl, e⟩
      · exact nomatch e
      · injection e with e1 _; rw [e1]
  byValue := fun k v h => by
    rcases keyIs_shape h with ⟨i, t, rfl, rfl⟩ | ⟨x, t, rfl, rfl⟩ <;> rfl
  pyHash := fun hv h => by
    rcases keyIs_shape hv with ⟨i, t, rfl, rfl⟩ | ⟨x, t, rfl, rfl⟩
    · exact wpAny_pyHash_int h
    · exact wpAny_pyHash_str h
  eqBool := fun hu hv h => by
    rcases keyIs_shape hu with ⟨i, t, rfl, rfl⟩ | ⟨x, t, rfl, rfl⟩
    · rcases keyIs_shape hv with ⟨j, u, rfl, rfl⟩ | ⟨y, u, rfl, rfl⟩
      · rw [key_ll] at h; exact wpAny_eqBool_int h
      · rw [key_lr] at h; exact SeqAt.EqAt.int_str i t y u _ _ _ _ h
    · rcases keyIs_shape hv with ⟨j, u, rfl, rfl⟩ | ⟨y, u, rfl, rfl⟩
      · rw [key_rl] at h; exact SeqAt.EqAt.str_int x t j u _ _ _ _ h
      · rw [key_rr] at h; exact wpAny_eqBool_str h
  «strs» := fun k x t v h => by
    rcases keyIs_shape h with ⟨i, u, rfl, e⟩ | ⟨y, u, rfl, e⟩
    · exact nomatch e
    · injection e with e1 _
      subst e1
      cases v <;> rfl

theorem mixKind_int (prog : Program) (w : World) (i : Int) (t : Tok) : (mixKind prog w).is (.inl i) (.int i t) = true := keyIs_int i t
theorem mixKind_str (prog : Program) (w : World) (x : Str) (t : Tok) : (mixKind prog w).is (.inr x) (.str x t) = true := keyIs_str x t
end L2

namespace L2
open PySem PySem.Spec PyProof.Rows

/-- a value, without the heap -/
inductive V where
  | non | bl (b : Bool) | int (i : Int) | str (x : Str) | byt (b : Array UInt8) | flt (b : UInt64) | ref (a : Addr) | ty (n : String)
  deriving DecidableEq

def RelV : V → Value → Prop
  | .non, u => u = Value.none
  | .bl b, u => u = Value.bool b
  | .int i, u => ∃ t, u = Value.int i t
  | .str x, u => ∃ t, u = Value.str x t
  | .byt b, u => ∃ t, u = Value.bytes b t
  | .flt b, u => ∃ t, u = Value.float b t
  | .ref a, u => u = Value.ref a
  | .ty n, u => u = Value.type n

abbrev Vals : List V → List Value → Prop := Paired RelV
theorem Vals.length {xs : List V} {us : List Value} (r : Vals xs us) : xs.length = us.length := Paired.length r
theorem Vals.get : ∀ {xs : List V} {us : List Value} {i : Nat} {x : V}, Vals xs us → xs[i]? = some x → ∃ u, us[i]? = some u ∧ RelV x u
  | _, _, _, _, .nil, e => by simp at e
  | _, _, 0, _, .cons r _, e => by simp at e; subst e; exact ⟨_, rfl, r⟩
  | _, _, i + 1, x, .cons _ t, e => by
    obtain ⟨u, h1, h2⟩ := Vals.get (i := i) (x := x) t (by simpa using e)
    exact ⟨u, by simpa using h1, h2⟩
theorem Vals.set {x : V} {u : Value} (r : RelV x u) : ∀ {xs : List V} {us : List Value} (i : Nat), Vals xs us → Vals (xs.set i x) (us.set i u)
  | _, _, _, .nil => .nil
  | _, _, 0, .cons _ t => .cons r t
  | _, _, i + 1, .cons q t => .cons q (Vals.set r i t)
theorem Vals.append : ∀ {xs ys : List V} {us ws : List Value}, Vals xs us → Vals ys ws → Vals (xs ++ ys) (us ++ ws)
  | _, _, _, _, .nil, s => s
  | _, _, _, _, .cons r t, s => .cons r (Vals.append t s)
theorem Vals.take : ∀ {xs : List V} {us : List Value} (n : Nat), Vals xs us → Vals (xs.take n) (us.take n)
  | _, _, 0, _ => .nil
  | _, _, _ + 1, .nil => .nil
  | _, _, n + 1, .cons r t => .cons r (Vals.take n t)
theorem Vals.drop : ∀ {xs : List V} {us : List Value} (n : Nat), Vals xs us → Vals (xs.drop n) (us.drop n)
  | _, _, 0, r => r
  | _, _, _ + 1, .nil => .nil
  | _, _, n + 1, .cons _ t => Vals.drop n t
def RelO : Option V → Option Value → Prop
  | some v, some u => RelV v u
  | none, none => True
  | _, _ => False
def KV {κ : Type} : List (κ × V) → List (κ × Value) → Prop := Paired fun (p : κ × V) (q : κ × Value) => p.1 = q.1 ∧ RelV p.2 q.2

/-- a key of a dict (00_mix): an int or a text -/
def kV : Key → V
  | .inl i => .int i
  | .inr x => .str x

/-- what stands at a tracked address -/
inductive HO where
  /-- a list -/
  | lst (xs : List V)
  /-- a tuple (never changes) -/
  | tup (xs : List V)
  /-- a dict whose keys are ints and texts; one whose keys are tuples of ints and texts (the empty one is both) -/
  | dK (kvs : List (Key × V)) | dT (kvs : List (List Key × V))
  /-- a set of ints: its members, its size -/
  | set (S : Int → Bool) (n : Nat)
  /-- an instance of the class at C, its dict at dx, its attributes -/
  | ins (C dx : Addr) (fs : List (Str × V))
  /-- the dict of the instance at x -/
  | own (x : Addr)
  /-- the dict of an exception -/
  | xd (fs : List (Str × V))
  /-- a bound method, f of x -/
  | met (f x : Addr)
  /-- a range object lo, lo + 1, .. below hi -/
  | rng (lo hi : Int)
  /-- a thing that is known to the object (the script; a dict while a loop walks it): read, never written while it is so -/
  | frz (o : Obj) (u : HO)
  /-- a code object's table -/
  | tbl (ps : Array Value)
  /-- any other thing, by what is true of its one object (a def of one's own: SetO a S n := HO.ext fun h => ..) -/
  | ext (φ : Heap → Prop)

abbrev Hp := Addr → Option HO
def upd (H : Hp) (a : Addr) (o : HO) : Hp := fun b => if b = a then some o else H b
theorem upd_same {H : Hp} {a : Addr} {o : HO} : upd H a o a = some o := by unfold upd; rw [if_pos rfl]
theorem upd_ne {H : Hp} {a b : Addr} {o : HO} (h : b ≠ a) : upd H a o b = H b := by unfold upd; rw [if_neg h]
theorem upd_upd {H : Hp} {a : Addr} {o u : HO} : upd (upd H a o) a u = upd H a u := by
  funext b; unfold upd; split <;> rfl
/-- two objects of different content stand apart -/
theorem ne_of {H : Hp} {a b : Addr} {o u : HO} (h : H a = some o) (h' : H b = some u) (d : o ≠ u) : a ≠ b := by
  intro e; subst e; rw [h] at h'; exact d (Option.some.inj h')
theorem ne_of_none {H : Hp} {a b : Addr} {o : HO} (h : H a = some o) (h' : H b = none) : a ≠ b := by
  intro e; subst e; rw [h] at h'; cases h'

section
variable (P : Program) (w : World)
def ObjOk (H : Hp) (h : Heap) (a : Addr) : HO → Prop
  | .lst xs => xs.length ≤ sizeLine ∧ ∃ (its : List Value) (n : Nat), Vals xs its ∧ h.get? a = some { cls := .type "list", data := .seq its.toArray n }
  | .tup xs => xs.length ≤ sizeLine ∧ ∃ its : List Value, Vals xs its ∧ IsTup h a its.toArray
  | .dK kvs => kvs.length ≤ sizeLine ∧ (a == sysModules) = false ∧ ∃ vs, KV kvs vs ∧ h.DictOf (mixKind P w) a vs
  | .dT kvs => kvs.length ≤ sizeLine ∧ (a == sysModules) = false ∧ ∃ xs : List (List Key × Addr × Value),
      Paired (fun (p : List Key × V) (q : List Key × Addr × Value) => p.1 = q.1 ∧ H q.2.1 = some (.tup (p.1.map kV)) ∧ RelV p.2 q.2.2) kvs xs ∧
      ∃ o es ep, h.get? a = some o ∧ o.ExactDict ∧ o.data = .dict es ep ∧ es.toList = xs.map (entryOfKey (tupleKind (mixKind P w))) ∧ (xs.map (·.1)).Nodup
  | .set S n => h.SetOf (intKind P w) a S n
  | .ins C dx fs => H dx = some (.own a) ∧ fs.length ≤ 1000 ∧ dx ≠ a ∧ h.get? a = some (PySem.W.instObj C dx) ∧
      ∃ mA, h.Ns1 dx mA ∧ (∀ f, RelO (fs.lookup f) (mA f)) ∧ PySem.Within mA (fs.map (·.1))
  | .own _ => ∃ o, h.get? a = some o
  | .xd fs => ∃ mA, h.Ns1 a mA ∧ ∀ f, RelO (fs.lookup f) (mA f)
  | .rng lo hi => ∃ t u v, h.get? a = some { cls := .type "range", data := .fields #[.int lo t, .int hi u, .int 1 v] }
  | .frz o u => h.get? a = some o ∧ ObjOk H h a u
  | .tbl ps => h.get? a = some { cls := .none, data := .fields ps }
  | .met f x => h.get? a = some (PySem.W.methodObj (.ref f) (.ref x))
  | .ext φ => φ h ∧ (∃ o, h.get? a = some o) ∧ ∀ h1 h2 : Heap, φ h1 → (∀ o, h1.get? a = some o → h2.get? a = some o) → φ h2
/-- the abstract heap is held -/
def HOk (H : Hp) (h : Heap) : Prop := ∀ a o, H a = some o → ObjOk P w H h a o
end

section
variable {P : Program} {w : World} {H H' : Hp} {h h' : Heap} {a : Addr} {o : HO}
theorem ObjOk.lt (x : ObjOk P w H h a o) : a < h.objs.size := by
  cases o with
  | lst xs => obtain ⟨_, _, _, _, e⟩ := x; exact Heap.lt_size e
  | tup xs => obtain ⟨_, _, _, p⟩ := x; exact p.lt
  | dK kvs => obtain ⟨_, _, _, _, o, _, _, e, _⟩ := x; exact Heap.lt_size e
  | dT kvs => obtain ⟨_, _, _, _, o, _, _, e, _⟩ := x; exact Heap.lt_size e
  | set S n => obtain ⟨o, _, _, _, e, _⟩ := x; exact Heap.lt_size e
  | ins C dx fs => obtain ⟨_, _, _, e, _⟩ := x; exact Heap.lt_size e
  | own y => obtain ⟨_, e⟩ := x; exact Heap.lt_size e
  | xd fs => obtain ⟨_, ⟨_, _, _, e, _⟩, _⟩ := x; exact Heap.lt_size e
  | rng lo hi => obtain ⟨_, _, _, e⟩ := x; exact Heap.lt_size e
  | frz ob u => obtain ⟨e, _⟩ := x; exact Heap.lt_size e
  | tbl ps => exact Heap.lt_size (show h.get? a = some _ from x)
  | met f y => exact Heap.lt_size (show h.get? a = some _ from x)
  | ext φ => obtain ⟨_, ⟨_, e⟩, _⟩ := x; exact Heap.lt_size e
theorem Paired.mapP {α β : Type} {F G : α → β → Prop} : ∀ {l₁ : List α} {l₂ : List β}, Paired F l₁ l₂ → (∀ a b, F a b → G a b) → Paired G l₁ l₂
  | _, _, .nil, _ => .nil
  | _, _, .cons r t, f => .cons (f _ _ r) (Paired.mapP t f)
/-- what an object's description leans on: its own object, its own dict, the tuples -/
theorem ObjOk.stay (x : ObjOk P w H h a o) (k : ∀ b u, (b = a ∨ H b = some (.own a)) → h.get? b = some u → h'.get? b = some u)
    (ho : ∀ b, H b = some (.own a) → H' b = some (.own a)) (ht : ∀ b xs, H b = some (.tup xs) → H' b = some (.tup xs)) : ObjOk P w H' h' a o := by
  induction o with
  | lst xs => obtain ⟨z, its, n, r, e⟩ := x; exact ⟨z, its, n, r, k _ _ (.inl rfl) e⟩
  | tup xs => obtain ⟨z, its, r, ob, e, c⟩ := x; exact ⟨z, its, r, ob, k _ _ (.inl rfl) e, c⟩
  | dK kvs => obtain ⟨z, y, vs, r, ob, es, ep, e, c⟩ := x; exact ⟨z, y, vs, r, ob, es, ep, k _ _ (.inl rfl) e, c⟩
  | dT kvs =>
    obtain ⟨z, y, xs, r, ob, es, ep, e, c⟩ := x
    exact ⟨z, y, xs, Paired.mapP r fun p q z => ⟨z.1, ht _ _ z.2.1, z.2.2⟩, ob, es, ep, k _ _ (.inl rfl) e, c⟩
  | set S n => obtain ⟨ob, es, ep, t, e, c⟩ := x; exact ⟨ob, es, ep, t, k _ _ (.inl rfl) e, c⟩
  | ins C dx fs =>
    obtain ⟨d, z, ne, e, mA, ⟨od, es, ep, e2, c⟩, r⟩ := x
    exact ⟨ho _ d, z, ne, k _ _ (.inl rfl) e, mA, ⟨od, es, ep, k _ _ (.inr d) e2, c⟩, r⟩
  | own y => obtain ⟨ob, e⟩ := x; exact ⟨ob, k _ _ (.inl rfl) e⟩
  | xd fs => obtain ⟨mA, ⟨od, es, ep, e, c⟩, r⟩ := x; exact ⟨mA, ⟨od, es, ep, k _ _ (.inl rfl) e, c⟩, r⟩
  | rng lo hi => obtain ⟨t, u, v, e⟩ := x; exact ⟨t, u, v, k _ _ (.inl rfl) e⟩
  | frz ob u ih => obtain ⟨e, q⟩ := x; exact ⟨k _ _ (.inl rfl) e, ih q⟩
  | tbl ps =>
    have e : h.get? a = some { cls := .none, data := .fields ps } := x
    show h'.get? a = some { cls := .none, data := .fields ps }
    exact k a _ (.inl rfl) e
  | met f y =>
    have e : h.get? a = some (PySem.W.methodObj (.ref f) (.ref y)) := x
    show h'.get? a = some (PySem.W.methodObj (.ref f) (.ref y))
    exact k a _ (.inl rfl) e
  | ext φ => obtain ⟨p, ⟨o, e⟩, st⟩ := x; exact ⟨st _ _ p fun o q => k _ _ (.inl rfl) q, ⟨o, k _ _ (.inl rfl) e⟩, st⟩
theorem HOk.lt (x : HOk P w H h) (e : H a = some o) : a < h.objs.size := (x a o e).lt
theorem HOk.fresh (x : HOk P w H h) (e : h.objs.size ≤ a) : H a = none := by
  cases q : H a with
  | none => rfl
  | some u => exact absurd (Nat.lt_of_lt_of_le (x.lt q) e) (Nat.lt_irrefl _)
/-- every object of the heap is kept -/
theorem HOk.kept (x : HOk P w H h) (k : ∀ b u, h.get? b = some u → h'.get? b = some u) : HOk P w H h' := fun a o e =>
  (x a o e).stay (fun b u _ q => k b u q) (fun _ q => q) fun _ _ q => q
/-- a new object is laid and tracked -/
theorem HOk.laid (x : HOk P w H h) (k : ∀ b u, h.get? b = some u → h'.get? b = some u) (hp : h.objs.size ≤ a) (new : ObjOk P w (upd H a o) h' a o) : HOk P w (upd H a o) h' := fun b u e => by
  have hn := x.fresh hp
  by_cases hb : b = a
  · subst hb; rw [upd_same] at e; cases e; exact new
  · rw [upd_ne hb] at e
    exact (x b u e).stay (fun c v _ q => k c v q) (fun c q => by rw [upd_ne (ne_of_none q hn)]; exact q) fun c xs q => by rw [upd_ne (ne_of_none q hn)]; exact q
end

/-- what may be read as u: it is u, or a known u -/
def Rd (H : Hp) (a : Addr) (u : HO) : Prop := H a = some u ∨ ∃ o, H a = some (.frz o u)
theorem Rd.ok {P : Program} {w : World} {H : Hp} {h : Heap} {a : Addr} {u : HO} (r : Rd H a u) (x : HOk P w H h) : ObjOk P w H h a u := by
  rcases r with r | ⟨o, r⟩
  · exact x a u r
  · obtain ⟨_, q⟩ := x a _ r
    exact q
/-- what may be written -/
def Mut : Option HO → Prop
  | some (.lst _) => True
  | some (.dK _) => True
  | some (.dT _) => True
  | some (.set _ _) => True
  | some (.ins _ _ _) => True
  | some (.ext _) => True
  | _ => False
section
variable {P : Program} {w : World} {H : Hp} {h h' : Heap} {x e : Addr} {o' : HO}
/-- the object at e is changed: x itself, or the dict of the instance x -/
theorem HOk.write (ok : HOk P w H h) (mu : Mut (H x)) (he : e = x ∨ H e = some (.own x)) (k : ∀ b u, b ≠ e → h.get? b = some u → h'.get? b = some u) (heo : ∃ u, h'.get? e = some u)
    (new : ObjOk P w (upd H x o') h' x o') : HOk P w (upd H x o') h' := fun b u q => by
  have nown : ∀ c y, H c = some (.own y) → c ≠ x := fun c y r z => by subst z; rw [r] at mu; exact mu
  have ntup : ∀ c xs, H c = some (.tup xs) → c ≠ x := fun c xs r z => by subst z; rw [r] at mu; exact mu
  by_cases hb : b = x
  · subst hb; rw [upd_same] at q; cases q; exact new
  · rw [upd_ne hb] at q
    by_cases hbe : b = e
    · have q' : H b = some (.own x) := by
        rcases he with z | z
        · exact absurd (hbe.trans z) hb
        · rw [hbe]; exact z
      rw [q] at q'; cases q'
      obtain ⟨v, hv⟩ := heo
      exact ⟨v, by rw [hbe]; exact hv⟩
    · refine (ok b u q).stay (fun c v hc r => k c v ?_ r) (fun c r => by rw [upd_ne (nown c b r)]; exact r) fun c xs r => by rw [upd_ne (ntup c xs r)]; exact r
      rcases hc with rfl | hc
      · exact hbe
      · rintro rfl
        rcases he with z | z
        · exact nown c b hc z
        · rw [hc] at z; cases z; exact hb rfl
end

/-! ### kept unless tracked; of the frames at fs (the callers') the slots may change (an exception that passes writes there); of the records at ex (iterators) nothing is said -/
structure Un (fs ex : List Addr) (H H' : Hp) (h h' : Heap) : Prop where
  keep : ∀ b o, h.get? b = some o → H b = none → b ∉ fs → b ∉ ex → h'.get? b = some o
  slot : ∀ b o, h.get? b = some o → H b = none → b ∈ fs → b ∉ ex → ∃ sl, h'.get? b = some { o with slots := sl }
  free : ∀ b o, h.get? b = some o → H b = none → b ∉ ex → H' b = none
  there : ∀ b o, h.get? b = some o → b ∉ ex → ∃ o', h'.get? b = some o'
  tups : ∀ b xs, H b = some (.tup xs) → H' b = some (.tup xs)
  frzs : ∀ b o u, H b = some (.frz o u) → H' b = some (.frz o u)
  tbls : ∀ b ps, H b = some (.tbl ps) → ∃ more, H' b = some (.tbl (ps ++ more))
section
variable {fs fs' ex ex' : List Addr} {H H1 H2 : Hp} {h h1 h2 h' : Heap} {a x e : Addr} {o : HO}
theorem Un.any (u : Un fs ex H H1 h h1) {b : Addr} {ob : Obj} (q : h.get? b = some ob) (n : H b = none) (hx : b ∉ ex) : ∃ sl, h1.get? b = some { ob with slots := sl } := by
  by_cases hb : b ∈ fs
  · exact u.slot b ob q n hb hx
  · exact ⟨ob.slots, u.keep b ob q n hb hx⟩
theorem Un.kept (k : ∀ b u, h.get? b = some u → h'.get? b = some u) : Un fs ex H H h h' :=
  ⟨fun b ob q _ _ _ => k b ob q, fun b ob q _ _ _ => ⟨ob.slots, k b ob q⟩, fun _ _ _ n _ => n, fun b ob q _ => ⟨ob, k b ob q⟩, fun _ _ q => q, fun _ _ _ q => q, fun _ ps q => ⟨#[], by rw [q]; simp⟩⟩
theorem Un.refl : Un fs ex H H h h := Un.kept fun _ _ q => q
theorem Un.laid (k : ∀ b u, h.get? b = some u → h'.get? b = some u) (hp : h.objs.size ≤ a) (hn : H a = none) : Un fs ex H (upd H a o) h h' where
  keep := fun b u q _ _ _ => k b u q
  slot := fun b u q _ _ _ => ⟨u.slots, k b u q⟩
  free := fun b u q n _ => by rw [upd_ne (Nat.ne_of_lt (Nat.lt_of_lt_of_le (Heap.lt_size q) hp))]; exact n
  there := fun b u q _ => ⟨u, k b u q⟩
  tups := fun b xs q => by rw [upd_ne (ne_of_none q hn)]; exact q
  frzs := fun b u xs q => by rw [upd_ne (ne_of_none q hn)]; exact q
  tbls := fun b ps q => ⟨#[], by rw [upd_ne (ne_of_none q hn), q]; simp⟩
theorem Un.write (mu : Mut (H x)) (he : e = x ∨ H e = some (.own x)) (k : ∀ b u, b ≠ e → h.get? b = some u → h'.get? b = some u) (heo : ∃ u, h'.get? e = some u) : Un fs ex H (upd H x o) h h' := by
  have hx : ∀ b, H b = none → b ≠ x := fun b n z => by subst z; rw [n] at mu; exact mu
  have hb : ∀ b, H b = none → b ≠ e := fun b n z => by
    subst z
    rcases he with r | r
    · exact hx b n r
    · rw [n] at r; cases r
  have hm : ∀ b u, H b = some u → ¬ Mut (some u) → b ≠ x := fun b u q nm z => by subst z; rw [q] at mu; exact nm mu
  refine ⟨fun b u q n _ _ => k b u (hb b n) q, fun b u q n _ _ => ⟨u.slots, k b u (hb b n) q⟩, fun b u q n _ => by rw [upd_ne (hx b n)]; exact n, fun b u q _ => ?_,
    fun b xs q => by rw [upd_ne (hm b _ q fun z => z)]; exact q, fun b u xs q => by rw [upd_ne (hm b _ q fun z => z)]; exact q, fun b ps q => ⟨#[], by rw [upd_ne (hm b _ q fun z => z), q]; simp⟩⟩
  by_cases hbe : b = e
  · subst hbe; exact heo
  · exact ⟨u, k b u hbe q⟩
end

/-! ### the heap without what is tracked -/
def trk (h : Heap) (H : Hp) : List Addr := (List.range h.objs.size).filter fun a => (H a).isSome
def hidT (h : Heap) (H : Hp) : Heap := PySem.W.hideAll h (trk h H)
theorem hidT_size (h : Heap) (H : Hp) : (hidT h H).objs.size = h.objs.size := PySem.W.hideAll_size _ _
theorem hidT_get {h : Heap} {H : Hp} {b : Addr} {o : Obj} (e : h.get? b = some o) (n : H b = none) : (hidT h H).get? b = some o :=
  PySem.W.hideAll_get _ e fun hm => by
    have q : (H b).isSome = true := (List.mem_filter.mp hm).2
    rw [n] at q; simp at q
theorem of_hidT {h : Heap} {H : Hp} {b : Addr} {o : Obj} (e : (hidT h H).get? b = some o) : h.get? b = some o ∧ H b = none := by
  have e' : h.get? b = some o := PySem.W.of_hideAll (trk h H) e
  refine ⟨e', ?_⟩
  cases q : H b with
  | none => rfl
  | some x =>
    have hm : b ∈ trk h H := List.mem_filter.mpr ⟨List.mem_range.mpr (Heap.lt_size e'), by simp [q]⟩
    have z : (hidT h H).get? b = none := PySem.W.hideAll_none (trk h H) hm
    rw [z] at e; cases e

/-! ### OpenK's ledger, filled with every new object but one -/
def allNews (g h : Heap) (L : Addr) : List (Addr × Obj) := (List.range h.objs.size).filterMap fun a => if a = L ∨ (g.get? a).isSome = true then none else (h.get? a).map fun o => (a, o)
def rest (g h : Heap) (L d : Addr) : List (Addr × Obj) := (allNews g h L).filter fun p => decide (p.1 ≠ d)
end L2

namespace L2
open PySem PySem.Spec PyProof.Rows

/-- the module's facts, over the base: the heap at the law's entry without what is tracked there -/
structure Mod (K : PySem.W.Frag) (mg : Str → Option Value) (base : Heap) : Prop where
  kin : K.In base
  glob : base.Ns mainGlobals mg
  blt : ∃ mb, base.Ns builtinsNs mb ∧ ∀ x : Str, x ≠ "__name__" → mb x = bootBuiltins x
  nolimit : base.NoLimit

/-- the context: a def's body (or a comprehension's block) running. base: fixed through the whole law; s₀, H₀: the entry; outer: the frames whose slots others may change (a def's callers); stack: all frames that run;
   ex: iterators that were made ahead of the entry and are walked here (a comprehension's); fn: the names whose cells were made at the entry (a def: all; a comprehension's block: its own); calm: not within an except suite; pn: pins that every state bears; xe: what is wanted of an exception that leaves the code -/
structure Cx where
  prog : Program
  w : World
  K : PySem.W.Frag
  mg : Str → Option Value
  base : Heap
  A : Around
  N : List Str
  s_0 : Shared
  H_0 : Hp
  env : Env
  outer : List Env
  stack : List Env
  ex : List Addr
  fn : Str → Bool
  calm : Bool
  pn : List (Addr × Obj)
  xe : Value → Shared → Prop
/-- the callers' frames -/
def frs (l : List Env) : List Addr := l.filterMap (·.frame)
abbrev Cx.fs (X : Cx) : List Addr := frs X.outer

def Vis (sc : Scope) (x : Str) : Prop := sc.names.lookup x = some .local ∨ sc.names.lookup x = some .cell ∨ sc.names.lookup x = some .free
def Loc (sc : Scope) (x : Str) : Prop := sc.names.lookup x = some .local ∨ sc.names.lookup x = some .cell
def Look (env : Env) (h : Heap) (m : Str → Option Value) (x : Str) (u : Value) : Prop :=
  (env.kindOf x = some .local ∧ m x = some u) ∨ ((env.kindOf x = some .cell ∨ env.kindOf x = some .free) ∧ ∃ c, env.cells.lookup x = some c ∧ h.IsCell c (some u))

structure Cx.Ok (X : Cx) : Prop where
  mod : Mod X.K X.mg X.base
  kind : X.env.scope.kind = .function
  glob : X.env.globals = mainGlobals
  blt : X.env.builtins = builtinsNs
  above : X.s_0.heap.objs.size ≤ X.env.locals
  inj : ∀ x y c, X.env.cells.lookup x = some c → X.env.cells.lookup y = some c → x = y
  has : ∀ x, (X.env.kindOf x = some .cell ∨ X.env.kindOf x = some .free) → ∃ c, X.env.cells.lookup x = some c
  cab : ∀ x c, X.fn x = true → X.env.cells.lookup x = some c → X.s_0.heap.objs.size ≤ c
  hd : X.calm = true → X.A.handled = none
  frames : X.A.frames = some X.stack
  stk : X.stack = X.outer ∨ (X.stack = X.env :: X.outer ∧ X.env.frame = some X.env.locals)
  exf : ∀ b ∈ X.ex, b ≠ X.env.locals ∧ ∀ x c, X.env.cells.lookup x = some c → c ≠ b
  bs : ∀ b o, X.base.get? b = some o → X.s_0.heap.get? b = some o ∧ X.H_0 b = none
  bsz : X.base.objs.size ≤ X.s_0.heap.objs.size
  noex : ∀ b o, X.base.get? b = some o → b ∉ X.ex
  exfs : ∀ b ∈ X.ex, b ∉ X.fs
  funs : X.s_0.heap.FunFrames X.base X.outer
  frf : ∀ b ∈ X.fs, X.H_0 b = none

structure Inv (X : Cx) (pins : List (Addr × Obj)) (σ : List (Option V)) (H : Hp) (s : Shared) : Prop where
  ok : X.Ok
  os : s.os = X.s_0.os
  bare : AllBare s.gens
  base : Un X.fs X.ex X.H_0 H X.s_0.heap s.heap
  loc : ∃ m, s.heap.Ns X.env.locals m ∧ ∀ (i : Nat) (x : Str) (v : V), X.N[i]? = some x → σ[i]? = some (some v) → Vis X.env.scope x → ∃ u, RelV v u ∧ Look X.env s.heap m x u
  cell : ∀ x c, X.env.cells.lookup x = some c → ∃ v, s.heap.IsCell c v
  free : H X.env.locals = none
  freeC : ∀ x c, X.env.cells.lookup x = some c → H c = none
  pin : ∀ p ∈ X.pn ++ pins, s.heap.get? p.1 = some p.2 ∧ H p.1 = none ∧ p.1 ≠ X.env.locals ∧ p.1 ∉ X.fs ∧ ∀ v, p.2.data ≠ .cell v
  hok : HOk X.prog X.w H s.heap
  len : σ.length = X.N.length

section
variable {X : Cx} {pins : List (Addr × Obj)} {σ : List (Option V)} {H H' : Hp} {s : Shared} {h' : Heap}

theorem Cx.Ok.nofr (ok : X.Ok) {b : Addr} {o : Obj} (e : X.base.get? b = some o) : b ∉ X.fs := fun hb => by
  have := (ok.funs.mem hb).1
  rw [e] at this; cases this
theorem Inv.bs (I : Inv X pins σ H s) : ∀ b o, X.base.get? b = some o → s.heap.get? b = some o ∧ H b = none := fun b o e =>
  ⟨I.base.keep b o (I.ok.bs b o e).1 (I.ok.bs b o e).2 (I.ok.nofr e) (I.ok.noex b o e), I.base.free b o (I.ok.bs b o e).1 (I.ok.bs b o e).2 (I.ok.noex b o e)⟩
theorem Inv.bk (I : Inv X pins σ H s) : ∀ b o, X.base.get? b = some o → s.heap.get? b = some o := fun b o e => (I.bs b o e).1
theorem Inv.mod (I : Inv X pins σ H s) : Mod X.K X.mg X.base := I.ok.mod
theorem Inv.kIn (I : Inv X pins σ H s) : X.K.In s.heap := I.ok.mod.kin.keeps I.bk
/-- the frame over the base: for OpenK's rules (K.In X.base is I.mod.kin) -/
theorem Inv.fr (I : Inv X pins σ H s) : ∃ m, Fr X.base X.env.locals s.heap m :=
  let ⟨m, hn, _⟩ := I.loc
  ⟨m, hn, I.bk, Nat.le_trans I.ok.bsz I.ok.above⟩
theorem Inv.lt (I : Inv X pins σ H s) : X.env.locals < s.heap.objs.size := let ⟨_, hn, _⟩ := I.loc; hn.lt
theorem Inv.sz (I : Inv X pins σ H s) : X.s_0.heap.objs.size ≤ s.heap.objs.size := Nat.le_trans I.ok.above (Nat.le_of_lt I.lt)
theorem Inv.nofs (I : Inv X pins σ H s) {a : Addr} (h : s.heap.objs.size ≤ a) : a ∉ X.fs := fun hb => by
  obtain ⟨_, o, ho, _⟩ := I.ok.funs.mem hb
  exact absurd (Nat.lt_of_lt_of_le (Heap.lt_size ho) (Nat.le_trans I.sz h)) (Nat.lt_irrefl _)
theorem Inv.cne (I : Inv X pins σ H s) : ∀ x c, X.env.cells.lookup x = some c → c ≠ X.env.locals := fun x c e z => by
  obtain ⟨v, o, ho, hd⟩ := I.cell x c e
  obtain ⟨m, ⟨o', es, ep, ho', hd', _⟩, _⟩ := I.loc
  rw [z, ho'] at ho; cases ho; rw [hd'] at hd; cases hd
theorem Inv.funs (I : Inv X pins σ H s) : s.heap.FunFrames X.base X.outer := by
  have all : ∀ (l : List Env), (∀ b ∈ frs l, b ∈ X.fs) → X.s_0.heap.FunFrames X.base l → s.heap.FunFrames X.base l := by
    intro l
    induction l with
    | nil => intro _ _; trivial
    | cons env r ih =>
      intro hs hl
      obtain ⟨hk, ⟨L, o, hf, hn, ho, hd⟩, hr⟩ := hl
      have hL : L ∈ X.fs := hs L (by unfold frs; rw [List.filterMap_cons, hf]; exact List.mem_cons_self)
      obtain ⟨sl, e⟩ := I.base.slot L o ho (I.ok.frf L hL) hL fun z => I.ok.exfs L z hL
      exact ⟨hk, ⟨L, _, hf, hn, e, hd⟩, ih (fun b hb => hs b (by unfold frs; rw [List.filterMap_cons, hf]; exact List.mem_cons_of_mem _ hb)) hr⟩
  exact all X.outer (fun _ hb => hb) I.ok.funs

/-- the frames that run, for a call -/
theorem Inv.stack (I : Inv X pins σ H s) : s.heap.FunFrames X.base X.stack := by
  rcases I.ok.stk with e | ⟨e, hf⟩
  · rw [e]; exact I.funs
  · rw [e]
    obtain ⟨m, hn, _⟩ := I.loc
    refine .cons (by rw [I.ok.kind]; decide) hf hn ?_ I.funs
    exact Heap.get?_none_of_le (Nat.le_trans I.ok.bsz I.ok.above)
theorem Inv.stkSub (I : Inv X pins σ H s) : ∀ b ∈ frs X.stack, b ∈ X.env.locals :: X.fs := fun b hb => by
  rcases I.ok.stk with e | ⟨e, hf⟩
  · rw [e] at hb; exact List.mem_cons_of_mem _ hb
  · rw [e] at hb
    unfold frs at hb
    rw [List.filterMap_cons, hf] at hb
    exact hb
theorem Inv.stkFree (I : Inv X pins σ H s) : ∀ b ∈ frs X.stack, H b = none := fun b hb => by
  rcases List.mem_cons.mp (I.stkSub b hb) with e | hb
  · rw [e]; exact I.free
  · obtain ⟨_, o, ho, _⟩ := I.ok.funs.mem hb
    exact I.base.free b o ho (I.ok.frf b hb) fun z => I.ok.exfs b z hb

/-- THE STEP: the untracked objects but the frame and the records at ch are kept (the callers' frames up to slots), the frame's map is kept, the new abstract heap is held -/
theorem Inv.step {g' : Array GenState} {t' : Nat} {d' : Drawn} {ch : List Addr} (I : Inv X pins σ H s)
    (hch : ∀ b ∈ ch, (b ∈ X.ex ∨ X.s_0.heap.objs.size ≤ b) ∧ b ≠ X.env.locals ∧ (∀ x c, X.env.cells.lookup x = some c → c ≠ b) ∧ ∀ p ∈ X.pn ++ pins, p.1 ≠ b)
    (keep : ∀ b o, b ≠ X.env.locals → b ∉ X.fs → b ∉ ch → s.heap.get? b = some o → H b = none → h'.get? b = some o)
    (slot : ∀ b o, b ≠ X.env.locals → b ∈ X.fs → b ∉ ch → s.heap.get? b = some o → H b = none → ∃ sl, h'.get? b = some { o with slots := sl }) (free : ∀ b o, b ∉ ch → s.heap.get? b = some o → H b = none → H' b = none)
    (there : ∀ b o, b ∉ ch → s.heap.get? b = some o → ∃ o', h'.get? b = some o')
    (tups : ∀ b xs, H b = some (.tup xs) → H' b = some (.tup xs)) (frzs : ∀ b o u, H b = some (.frz o u) → H' b = some (.frz o u)) (tbls : ∀ b ps, H b = some (.tbl ps) → ∃ more, H' b = some (.tbl (ps ++ more)))
    (ns : ∀ m, s.heap.Ns X.env.locals m → h'.Ns X.env.locals m) (hok : HOk X.prog X.w H' h') (hg : AllBare g') :
    Inv X pins σ H' { s with heap := h', gens := g', drawn := d', toks := t' } := by
  have neL : ∀ b o, X.s_0.heap.get? b = some o → b ≠ X.env.locals := fun b o e => Nat.ne_of_lt (Nat.lt_of_lt_of_le (Heap.lt_size e) I.ok.above)
  have neC : ∀ b o, X.s_0.heap.get? b = some o → b ∉ X.ex → b ∉ ch := fun b o e hx hb => by
    rcases (hch b hb).1 with z | z
    · exact hx z
    · exact absurd (Nat.lt_of_lt_of_le (Heap.lt_size e) z) (Nat.lt_irrefl _)
  have cellK : ∀ x c, X.env.cells.lookup x = some c → ∀ v, s.heap.IsCell c v → h'.IsCell c v := fun x c e v ⟨o, ho, hd⟩ => by
    have nch : c ∉ ch := fun z => (hch c z).2.2.1 x c e rfl
    by_cases hc : c ∈ X.fs
    · obtain ⟨sl, q⟩ := slot c o (I.cne x c e) hc nch ho (I.freeC x c e)
      exact ⟨_, q, hd⟩
    · exact ⟨o, keep c o (I.cne x c e) hc nch ho (I.freeC x c e), hd⟩
  refine ⟨I.ok, I.os, hg, ⟨fun b o e n hb hx => ?_, fun b o e n hb hx => ?_, fun b o e n hx => ?_, fun b o e hx => ?_, fun b xs e => tups b xs (I.base.tups b xs e), fun b o xs e => frzs b o xs (I.base.frzs b o xs e), fun b ps e => ?_⟩, ?_, fun x c e => ?_, ?_, fun x c e => ?_, fun p hp => ?_, hok, I.len⟩
  · exact keep b o (neL b o e) hb (neC b o e hx) (I.base.keep b o e n hb hx) (I.base.free b o e n hx)
  · obtain ⟨sl, e1⟩ := I.base.slot b o e n hb hx
    obtain ⟨sl', e2⟩ := slot b _ (neL b o e) hb (neC b o e hx) e1 (I.base.free b o e n hx)
    exact ⟨sl', e2⟩
  · obtain ⟨o', e1⟩ := I.base.there b o e hx
    exact free b o' (neC b o e hx) e1 (I.base.free b o e n hx)
  · obtain ⟨o', e1⟩ := I.base.there b o e hx
    exact there b o' (neC b o e hx) e1
  · obtain ⟨m1, e1⟩ := I.base.tbls b ps e
    obtain ⟨m2, e2⟩ := tbls b _ e1
    exact ⟨m1 ++ m2, by rw [e2, Array.append_assoc]⟩
  · obtain ⟨m, hn, hl⟩ := I.loc
    refine ⟨m, ns m hn, fun i x v e1 e2 e3 => ?_⟩
    obtain ⟨u, r, l⟩ := hl i x v e1 e2 e3
    refine ⟨u, r, ?_⟩
    rcases l with l | ⟨k, c, e, z⟩
    · exact .inl l
    · exact .inr ⟨k, c, e, cellK x c e _ z⟩
  · obtain ⟨v, z⟩ := I.cell x c e
    exact ⟨v, cellK x c e v z⟩
  · obtain ⟨m, ⟨o, _, _, ho, _⟩, _⟩ := I.loc
    exact free _ o (fun z => (hch _ z).2.1 rfl) ho I.free
  · obtain ⟨v, o, ho, hd⟩ := I.cell x c e
    exact free c o (fun z => (hch c z).2.2.1 x c e rfl) ho (I.freeC x c e)
  · obtain ⟨e, n, ne, nf, d⟩ := I.pin p hp
    have nch : p.1 ∉ ch := fun z => (hch p.1 z).2.2.2 p hp rfl
    exact ⟨keep p.1 p.2 ne nf nch e n, free p.1 p.2 nch e n, ne, nf, d⟩
/-- .. where the frame's own object is kept too -/
theorem Inv.un {t' : Nat} (I : Inv X pins σ H s) (u : Un X.fs [] H H' s.heap h') (hok : HOk X.prog X.w H' h') : Inv X pins σ H' { s with heap := h', toks := t' } := by
  obtain ⟨m, ⟨o, es, ep, ho, r⟩, _⟩ := id I.loc
  obtain ⟨sl, hL⟩ := u.any ho I.free (by simp)
  exact I.step (g' := s.gens) (d' := s.drawn) (ch := []) (fun _ z => nomatch z) (fun b o _ hb _ e n => u.keep b o e n hb (by simp)) (fun b o _ hb _ e n => u.slot b o e n hb (by simp)) (fun b o _ e n => u.free b o e n (by simp)) (fun b o _ e => u.there b o e (by simp)) u.tups u.frzs u.tbls (fun m' hm => by
    obtain ⟨o', es', ep', ho', r'⟩ := hm
    rw [ho] at ho'; cases ho'
    exact ⟨_, es', ep', hL, r'⟩) hok I.bare
/-- behind a call (or a comprehension's block): the slots of this frame may have changed too, the records at ch may have turned -/
theorem Inv.call {g' : Array GenState} {t' : Nat} {d' : Drawn} {ch : List Addr} (I : Inv X pins σ H s) (u : Un (frs X.stack) ch H H' s.heap h') (hok : HOk X.prog X.w H' h') (hg : AllBare g')
    (hch : ∀ b ∈ ch, (b ∈ X.ex ∨ X.s_0.heap.objs.size ≤ b) ∧ b ≠ X.env.locals ∧ (∀ x c, X.env.cells.lookup x = some c → c ≠ b) ∧ ∀ p ∈ X.pn ++ pins, p.1 ≠ b) :
    Inv X pins σ H' { s with heap := h', gens := g', drawn := d', toks := t' } := by
  obtain ⟨m, ⟨o, es, ep, ho, r⟩, _⟩ := id I.loc
  obtain ⟨sl, hL⟩ := u.any ho I.free fun z => (hch _ z).2.1 rfl
  exact I.step (ch := ch) hch (fun b o hL hb hc e n => u.keep b o e n (fun z => (List.mem_cons.mp (I.stkSub b z)).elim hL hb) hc) (fun b o _ _ hc e n => u.any e n hc) (fun b o hc e n => u.free b o e n hc) (fun b o hc e => u.there b o e hc) u.tups u.frzs u.tbls (fun m' hm => by
    obtain ⟨o', es', ep', ho', r'⟩ := hm
    rw [ho] at ho'; cases ho'
    exact ⟨_, es', ep', hL, r'⟩) hok hg
/-- an untracked record of ours (an iterator) has turned -/
theorem Inv.turned {t' : Nat} {it : Addr} (I : Inv X pins σ H s) (k : ∀ b o, b ≠ it → s.heap.get? b = some o → h'.get? b = some o) (hn : H it = none) (hL : it ≠ X.env.locals)
    (h1 : it ∈ X.ex ∨ X.s_0.heap.objs.size ≤ it) (h2 : ∀ x c, X.env.cells.lookup x = some c → c ≠ it) (h3 : ∀ p ∈ X.pn ++ pins, p.1 ≠ it) : Inv X pins σ H { s with heap := h', toks := t' } := by
  have nit : ∀ b u, H b = some u → b ≠ it := fun b u e z => by rw [z, hn] at e; cases e
  refine I.step (g' := s.gens) (d' := s.drawn) (ch := [it]) (fun b hb => ?_) (fun b o _ _ hc e _ => k b o (fun z => hc (by simp [z])) e) (fun b o _ _ hc e _ => ⟨o.slots, k b o (fun z => hc (by simp [z])) e⟩) (fun _ _ _ _ n => n)
    (fun b o hc e => ⟨o, k b o (fun z => hc (by simp [z])) e⟩) (fun _ _ e => e) (fun _ _ _ e => e) (fun b ps e => ⟨#[], by rw [e]; simp⟩) (fun m hm => ?_) (fun b u e => ?_) I.bare
  · have e : b = it := by simpa using hb
    subst e
    exact ⟨h1, hL, h2, h3⟩
  · obtain ⟨o, es, ep, ho, r⟩ := hm
    exact ⟨o, es, ep, k _ o (Ne.symm hL) ho, r⟩
  · refine (I.hok b u e).stay (fun c v hc q => k c v ?_ q) (fun _ q => q) fun _ _ q => q
    rcases hc with z | z
    · rw [z]; exact nit b u e
    · exact nit c _ z
theorem Inv.tok (I : Inv X pins σ H s) (t : Nat) : Inv X pins σ H { s with toks := t } := I.un (h' := s.heap) (t' := t) Un.refl I.hok
/-- all objects kept -/
theorem Inv.kept {t' : Nat} (I : Inv X pins σ H s) (k : ∀ b u, s.heap.get? b = some u → h'.get? b = some u) : Inv X pins σ H { s with heap := h', toks := t' } := I.un (Un.kept k) (I.hok.kept k)
/-- a new object laid and tracked -/
theorem Inv.laid {a : Addr} {o : HO} {t' : Nat} (I : Inv X pins σ H s) (k : ∀ b u, s.heap.get? b = some u → h'.get? b = some u) (hp : s.heap.objs.size ≤ a) (new : ObjOk X.prog X.w (upd H a o) h' a o) :
    Inv X pins σ (upd H a o) { s with heap := h', toks := t' } := I.un (Un.laid k hp (I.hok.fresh hp)) (I.hok.laid k hp new)
/-- an object written -/
theorem Inv.write {x e : Addr} {o : HO} {t' : Nat} (I : Inv X pins σ H s) (mu : Mut (H x)) (he : e = x ∨ H e = some (.own x)) (k : ∀ b u, b ≠ e → s.heap.get? b = some u → h'.get? b = some u) (heo : ∃ u, h'.get? e = some u)
    (new : ObjOk X.prog X.w (upd H x o) h' x o) : Inv X pins σ (upd H x o) { s with heap := h', toks := t' } := I.un (Un.write mu he k heo) (I.hok.write mu he k heo new)
/-- forgetting slots, pins -/
theorem Inv.weak {σ' : List (Option V)} (I : Inv X pins σ H s) (hl : σ'.length = σ.length) (w : ∀ (i : Nat) v, σ'[i]? = some (some v) → σ[i]? = some (some v)) : Inv X pins σ' H s :=
  ⟨I.ok, I.os, I.bare, I.base, let ⟨m, hn, hl'⟩ := I.loc; ⟨m, hn, fun i x v e1 e2 e3 => hl' i x v e1 (w i v e2) e3⟩, I.cell, I.free, I.freeC, I.pin, I.hok, hl.trans I.len⟩
theorem Inv.pins_of {pins' : List (Addr × Obj)} (I : Inv X pins σ H s) (h : ∀ p ∈ pins', s.heap.get? p.1 = some p.2 ∧ H p.1 = none ∧ p.1 ≠ X.env.locals ∧ p.1 ∉ X.fs ∧ ∀ v, p.2.data ≠ .cell v) : Inv X pins' σ H s :=
  ⟨I.ok, I.os, I.bare, I.base, I.loc, I.cell, I.free, I.freeC, fun p hp => (List.mem_append.mp hp).elim (fun z => I.pin p (List.mem_append_left _ z)) (h p), I.hok, I.len⟩

theorem nodup_ix {N : List Str} (hN : N.Nodup) {i j : Nat} {x : Str} (a : N[i]? = some x) (b : N[j]? = some x) : i = j := by
  obtain ⟨h1, e1⟩ := List.getElem?_eq_some_iff.mp a
  obtain ⟨h2, e2⟩ := List.getElem?_eq_some_iff.mp b
  exact (List.getElem_inj hN).mp (e1.trans e2.symm)

/-- a name is stored; what changed -/
theorem store_ok2 {M : Model} {A : Around} {E : Value → Shared → Prop} {i : Nat} {x : Str} {v : V} {u : Value} {Q : Unit → Shared → Prop} (I : Inv X pins σ H s) (hN : X.N.Nodup) (hi : X.N[i]? = some x) (hx : Loc X.env.scope x) (r : RelV v u)
    (h : ∀ s', Inv X pins (σ.set i (some v)) H s' → (∃ a, Heap.SameBut a s.heap s'.heap ∧ (a = X.env.locals ∨ X.env.cells.lookup x = some a)) → Q () s') (hf : X.fn x = true ∨ X.env.scope.names.lookup x = some .local := by first | exact .inl rfl | exact .inr rfl | assumption) : wpAny M A (storeName X.env x u) Q E s := by
  obtain ⟨m, hn, hl⟩ := id I.loc
  have hcls : (X.env.scope.kind == .class || (X.env.scope.kind == .module && X.env.locals != X.env.globals)) = false := by rw [I.ok.kind]; rfl
  have hiσ : i < σ.length := by rw [I.len]; exact (List.getElem?_eq_some_iff.mp hi).1
  have cne := I.cne
  have tracked : ∀ {a : Addr} {h' : Heap}, (∃ o, s.heap.get? a = some o ∧ H a = none) → Heap.SameBut a s.heap h' → HOk X.prog X.w H h' := fun {a h'} ha hs b ob e => by
    obtain ⟨_, _, hfree⟩ := ha
    refine (I.hok b ob e).stay (fun c w' hc q => (hs.2 c ?_).trans q) (fun _ q => q) fun _ _ q => q
    rintro rfl
    rcases hc with rfl | hc
    · rw [hfree] at e; cases e
    · rw [hfree] at hc; cases hc
  rcases hx with hk | hk
  · refine wpAny_storeName_local hk hn (fun h' hn' hs => ?_) hcls
    obtain ⟨oL, _, _, hoL, _⟩ := id hn
    refine h _ ⟨I.ok, I.os, I.bare, ⟨fun b o e n hb hx => ?_, fun b o e n hb hx => ?_, I.base.free, fun b o e hx => ?_, I.base.tups, I.base.frzs, I.base.tbls⟩, ⟨_, hn', fun j y v' e1 e2 e3 => ?_⟩, fun y c e => ?_, I.free, I.freeC, fun p hp => ?_, tracked ⟨oL, hoL, I.free⟩ hs, by simpa using I.len⟩ ⟨_, hs, .inl rfl⟩
    · exact (hs.2 b (Nat.ne_of_lt (Nat.lt_of_lt_of_le (Heap.lt_size e) I.ok.above))).trans (I.base.keep b o e n hb hx)
    · obtain ⟨sl, e1⟩ := I.base.slot b o e n hb hx
      exact ⟨sl, (hs.2 b (Nat.ne_of_lt (Nat.lt_of_lt_of_le (Heap.lt_size e) I.ok.above))).trans e1⟩
    · obtain ⟨o', e1⟩ := I.base.there b o e hx
      exact ⟨o', (hs.2 b (Nat.ne_of_lt (Nat.lt_of_lt_of_le (Heap.lt_size e) I.ok.above))).trans e1⟩
    · by_cases hj : j = i
      · subst hj
        rw [hi] at e1; cases e1
        rw [List.getElem?_set_self hiσ] at e2
        cases e2
        exact ⟨u, r, .inl ⟨hk, by simp⟩⟩
      · rw [List.getElem?_set_ne (Ne.symm hj)] at e2
        obtain ⟨u', r', q⟩ := hl j y v' e1 e2 e3
        refine ⟨u', r', ?_⟩
        rcases q with ⟨k, e⟩ | ⟨k, c, e, z⟩
        · refine .inl ⟨k, ?_⟩
          have : y ≠ x := fun e => hj (nodup_ix hN e1 (e ▸ hi))
          simp [this, e]
        · exact .inr ⟨k, c, e, z.sameBut hs (cne y c e)⟩
    · obtain ⟨w', z⟩ := I.cell y c e
      exact ⟨w', z.sameBut hs (cne y c e)⟩
    · obtain ⟨e, n, ne, nf, d⟩ := I.pin p hp
      exact ⟨(hs.2 p.1 ne).trans e, n, ne, nf, d⟩
  · have hfn : X.fn x = true := by
      rcases hf with z | z
      · exact z
      · rw [z] at hk; cases hk
    obtain ⟨c, hc⟩ := I.ok.has x (.inl hk)
    obtain ⟨w', z⟩ := I.cell x c hc
    refine wpAny_storeName_cell I.ok.kind hk hc z (fun h' hc' hs => ?_)
    obtain ⟨oc, hoc, hocd⟩ := id z
    refine h { s with heap := h' } ⟨I.ok, I.os, I.bare, ⟨fun b o e n hb hx => ?_, fun b o e n hb hx => ?_, I.base.free, fun b o e hx => ?_, I.base.tups, I.base.frzs, I.base.tbls⟩, ⟨m, hn.sameBut hs (Ne.symm (cne x c hc)), fun j y v' e1 e2 e3 => ?_⟩, fun y c' e => ?_, I.free, I.freeC, fun p hp => ?_, tracked ⟨oc, hoc, I.freeC x c hc⟩ hs, by simpa using I.len⟩ ⟨c, hs, .inr hc⟩
    · exact (hs.2 b (Nat.ne_of_lt (Nat.lt_of_lt_of_le (Heap.lt_size e) (I.ok.cab x c hfn hc)))).trans (I.base.keep b o e n hb hx)
    · obtain ⟨sl, e1⟩ := I.base.slot b o e n hb hx
      exact ⟨sl, (hs.2 b (Nat.ne_of_lt (Nat.lt_of_lt_of_le (Heap.lt_size e) (I.ok.cab x c hfn hc)))).trans e1⟩
    · obtain ⟨o', e1⟩ := I.base.there b o e hx
      exact ⟨o', (hs.2 b (Nat.ne_of_lt (Nat.lt_of_lt_of_le (Heap.lt_size e) (I.ok.cab x c hfn hc)))).trans e1⟩
    · by_cases hj : j = i
      · subst hj
        rw [hi] at e1; cases e1
        rw [List.getElem?_set_self hiσ] at e2
        cases e2
        exact ⟨u, r, .inr ⟨.inl hk, c, hc, hc'⟩⟩
      · rw [List.getElem?_set_ne (Ne.symm hj)] at e2
        obtain ⟨u', r', q⟩ := hl j y v' e1 e2 e3
        refine ⟨u', r', ?_⟩
        rcases q with q | ⟨k, c', e, z'⟩
        · exact .inl q
        · refine .inr ⟨k, c', e, z'.sameBut hs ?_⟩
          rintro rfl
          exact hj (nodup_ix hN e1 (I.ok.inj _ _ _ e hc ▸ hi))
    · by_cases hcc : c' = c
      · subst hcc; exact ⟨_, hc'⟩
      · obtain ⟨w2, z2⟩ := I.cell y c' e
        exact ⟨w2, z2.sameBut hs hcc⟩
    · obtain ⟨e, n, ne, nf, d⟩ := I.pin p hp
      refine ⟨(hs.2 p.1 ?_).trans e, n, ne, nf, d⟩
      intro q
      rw [q, hoc] at e
      have q' : oc = p.2 := Option.some.inj e
      exact d w' (by rw [← q']; exact hocd)
theorem store_ok {M : Model} {A : Around} {E : Value → Shared → Prop} {i : Nat} {x : Str} {v : V} {u : Value} {Q : Unit → Shared → Prop} (I : Inv X pins σ H s) (hN : X.N.Nodup) (hi : X.N[i]? = some x) (hx : Loc X.env.scope x) (r : RelV v u)
    (h : ∀ s', Inv X pins (σ.set i (some v)) H s' → Q () s') (hf : X.fn x = true ∨ X.env.scope.names.lookup x = some .local := by first | exact .inl rfl | exact .inr rfl | assumption) : wpAny M A (storeName X.env x u) Q E s :=
  store_ok2 I hN hi hx r (fun s' I' _ => h s' I') hf
/-- behind a call or a block, the state as it is -/
theorem Inv.call' {s' : Shared} {ch : List Addr} (I : Inv X pins σ H s) (ho : s'.os = s.os) (u : Un (frs X.stack) ch H H' s.heap s'.heap) (hok : HOk X.prog X.w H' s'.heap) (hg : AllBare s'.gens)
    (hch : ∀ b ∈ ch, (b ∈ X.ex ∨ X.s_0.heap.objs.size ≤ b) ∧ b ≠ X.env.locals ∧ (∀ x c, X.env.cells.lookup x = some c → c ≠ b) ∧ ∀ p ∈ X.pn ++ pins, p.1 ≠ b) : Inv X pins σ H' s' := by
  obtain ⟨h', g', d', t', o'⟩ := s'
  have e : o' = s.os := ho
  subst e
  exact I.call (g' := g') (t' := t') (d' := d') u hok hg hch
end

/-! ### the judgements -/
/-- an exception: its class, its own dict's address (where it has one), the abstract heap behind it -/
abbrev XK := Value → Option Addr → Hp → Prop
abbrev St := List (Option V)
abbrev VK := V → Hp → Prop
/-- an expression's reading; a test's; an argument list's -/
abbrev TE := St → Hp → VK → Prop
abbrev TT := St → Hp → (Bool → Hp → Prop) → Prop
abbrev TA := St → Hp → (List V → Hp → Prop) → Prop
/-- what is wanted behind a statement -/
structure Ends where
  nx : St → Hp → Prop
  rt : VK
  bk : St → Hp → Prop := fun _ _ => False
  ct : St → Hp → Prop := fun _ _ => False
abbrev TS := Ends → St → Hp → Prop

def EP (X : Cx) (pins : List (Addr × Obj)) (σ : St) (Q : VK) (u : Value) (s' : Shared) : Prop := ∃ v H', Inv X pins σ H' s' ∧ RelV v u ∧ Q v H'
def TP (X : Cx) (pins : List (Addr × Obj)) (σ : St) (Q : Bool → Hp → Prop) (b : Bool) (s' : Shared) : Prop := ∃ H', Inv X pins σ H' s' ∧ Q b H'
def AP (X : Cx) (pins : List (Addr × Obj)) (σ : St) (Q : List V → Hp → Prop) (us : List Value) (s' : Shared) : Prop := ∃ vs H', Inv X pins σ H' s' ∧ Vals vs us ∧ Q vs H'
def SP (X : Cx) (pins : List (Addr × Obj)) (D : Ends) (f : Flow) (s' : Shared) : Prop :=
  match f with
  | .next => ∃ σ' H', Inv X pins σ' H' s' ∧ D.nx σ' H'
  | .brk => ∃ σ' H', Inv X pins σ' H' s' ∧ D.bk σ' H'
  | .cont => ∃ σ' H', Inv X pins σ' H' s' ∧ D.ct σ' H'
  | .ret u => ∃ v σ' H', Inv X pins σ' H' s' ∧ RelV v u ∧ D.rt v H'

def PE (X : Cx) (e : Expr) (t : TE) : Prop :=
  ∀ (pins : List (Addr × Obj)) (s : Shared) (σ : St) (H : Hp) (Q : VK), Inv X pins σ H s → t σ H Q → wpAny (model X.prog X.w) X.A (eval e X.env) (EP X pins σ Q) X.xe s
def PT (X : Cx) (e : Expr) (t : TT) : Prop :=
  ∀ (pins : List (Addr × Obj)) (s : Shared) (σ : St) (H : Hp) (Q : Bool → Hp → Prop), Inv X pins σ H s → t σ H Q → wpAny (model X.prog X.w) X.A (isTrue e X.env (eval e X.env)) (TP X pins σ Q) X.xe s
/-- a test whatever its 'whole' is (and, or) -/
def PW (X : Cx) (e : Expr) (t : TT) : Prop :=
  ∀ (whole : Sem Value) (pins : List (Addr × Obj)) (s : Shared) (σ : St) (H : Hp) (Q : Bool → Hp → Prop), Inv X pins σ H s → t σ H Q → wpAny (model X.prog X.w) X.A (isTrue e X.env whole) (TP X pins σ Q) X.xe s
theorem PW.pt {X : Cx} {e : Expr} {t : TT} (h : PW X e t) : PT X e t := h _
/-- an argument list (no star), from the left -/
def PA (X : Cx) (es : List Expr) (t : TA) : Prop :=
  ∀ (pos : Pos) (pins : List (Addr × Obj)) (s : Shared) (σ : St) (H : Hp) (Q : List V → Hp → Prop), Inv X pins σ H s → t σ H Q → wpAny (model X.prog X.w) X.A (spliced (backTo pos (starEach es X.env))) (AP X pins σ Q) X.xe s
def PS (X : Cx) (st : Stmt) (t : TS) : Prop :=
  ∀ (pins : List (Addr × Obj)) (s : Shared) (σ : St) (H : Hp) (D : Ends), Inv X pins σ H s → t D σ H → wpAny (model X.prog X.w) X.A (exec st X.env) (SP X pins D) X.xe s
def PSs (X : Cx) (st : List Stmt) (t : TS) : Prop :=
  ∀ (pins : List (Addr × Obj)) (s : Shared) (σ : St) (H : Hp) (D : Ends), Inv X pins σ H s → t D σ H → wpAny (model X.prog X.w) X.A (execs st X.env) (SP X pins D) X.xe s
/-- weaken the end -/
theorem thn {α : Type} {t : Sem α} {Q Q' : α → Shared → Prop} {M : Model} {A : Around} {E : Value → Shared → Prop} {s : Shared} (h : wpAny M A t Q E s) (hQ : ∀ a s, Q a s → Q' a s) : wpAny M A t Q' E s := wpAny_mono h hQ fun _ _ x => x
end L2

namespace L2
open PySem PySem.Spec PyProof.Rows
section
variable {X : Cx}

/-! ### names and constants -/
def tVar (i : Nat) : TE := fun σ H Q => ∃ v, σ[i]? = some (some v) ∧ Q v H
def tC (v : V) : TE := fun _ H Q => Q v H
theorem pe_var {i : Nat} {x : Str} {pos : Pos} (hN : X.N[i]? = some x) (hv : Vis X.env.scope x) (hd : (x == ("__debug__" : Str)) = false := by decide) (hcd : (x == ("__classdict__" : Str)) = false := by decide) : PE X (.Name x pos) (tVar i) := by
  intro pins s σ H Q I h
  obtain ⟨v, e, h⟩ := h
  obtain ⟨m, hn, hl⟩ := I.loc
  obtain ⟨u, r, l⟩ := hl i x v hN e hv
  have fin : EP X pins σ Q u s := ⟨v, H, I, r, h⟩
  rcases l with ⟨hk, hm⟩ | ⟨hk, c, hc, hcell⟩
  · exact wpAny_Name (wpAny_loadName_local I.ok.kind hk hn hm fin) hd
  · rcases hk with hk | hk
    · exact wpAny_Name (wpAny_loadName_cell I.ok.kind hk hc hcell fin) hd
    · exact wpAny_Name (wpAny_loadName_free I.ok.kind hk hc hcell fin hcd) hd
theorem pe_int {i j pos} : PE X (.Constant (.int i) j pos) (tC (.int i)) := fun _ _ _ H _ I h => wpAny_Constant_int ⟨.int i, H, I.tok _, ⟨_, rfl⟩, h⟩
theorem pe_bl {b j pos} : PE X (.Constant (.bool b) j pos) (tC (.bl b)) := fun _ _ _ H _ I h => Constant_bool ⟨.bl b, H, I, rfl, h⟩
theorem pe_non {j pos} : PE X (.Constant .none j pos) (tC .non) := fun _ _ _ H _ I h => Constant_none ⟨.non, H, I, rfl, h⟩
theorem pe_str {x j pos} : PE X (.Constant (.str x) j pos) (tC (.str x)) := fun _ _ _ H _ I h => Calls.Constant_str ⟨.str x, H, I.tok _, ⟨_, rfl⟩, h⟩

/-- a global name of the def -/
def Gl (X : Cx) (x : Str) : Prop := X.env.kindOf x = some .globalImplicit
theorem ld_glob {E : Value → Shared → Prop} {pins : List (Addr × Obj)} {s : Shared} {σ : St} {H : Hp} {x : Str} {u : Value} {pos : Pos} {Q : Value → Shared → Prop} (I : Inv X pins σ H s) (hg : Gl X x) (hm : X.mg x = some u) (h : Q u s)
    (hd : (x == ("__debug__" : Str)) = false := by decide) : wpAny (model X.prog X.w) X.A (eval (.Name x pos) X.env) Q E s :=
  Calls.Name_function_global I.ok.kind hg (Calls.loadGlobal_global (by rw [I.ok.glob]; exact I.mod.glob.keeps I.bk) hm h) hd
theorem ld_blt {E : Value → Shared → Prop} {pins : List (Addr × Obj)} {s : Shared} {σ : St} {H : Hp} {x : Str} {u : Value} {pos : Pos} {Q : Value → Shared → Prop} (I : Inv X pins σ H s) (hg : Gl X x) (hm : X.mg x = none) (hv : bootBuiltins x = some u) (h : Q u s)
    (hn : x ≠ "__name__" := by decide) (hd : (x == ("__debug__" : Str)) = false := by decide) : wpAny (model X.prog X.w) X.A (eval (.Name x pos) X.env) Q E s := by
  obtain ⟨mb, h1, h2⟩ := I.mod.blt
  exact Calls.Name_function_global I.ok.kind hg (Calls.loadGlobal_builtin (by rw [I.ok.glob]; exact I.mod.glob.keeps I.bk) hm (by rw [I.ok.blt]; exact h1.keeps I.bk) ((h2 x hn).trans hv) h) hd
/-- a module's constant, a class, a function, as a value -/
theorem pe_glob {x : Str} {v : V} {u : Value} {pos : Pos} (hg : Gl X x) (hm : X.mg x = some u) (r : RelV v u) (hd : (x == ("__debug__" : Str)) = false := by decide) : PE X (.Name x pos) (tC v) :=
  fun _ _ _ H _ I h => ld_glob I hg hm ⟨v, H, I, r, h⟩ hd
theorem pe_bltn {x : Str} {v : V} {u : Value} {pos : Pos} (hg : Gl X x) (hm : X.mg x = none) (hv : bootBuiltins x = some u) (r : RelV v u) (hn : x ≠ "__name__" := by decide) (hd : (x == ("__debug__" : Str)) = false := by decide) : PE X (.Name x pos) (tC v) :=
  fun _ _ _ H _ I h => ld_blt I hg hm hv ⟨v, H, I, r, h⟩ hn hd

/-! ### arithmetic -/
variable {a b : Expr} {ta tb : TE} {pos : Pos}
/-! ### comparisons -/
def PC (X : Cx) (op : CmpOp) (a b : Expr) (t : TE) : Prop :=
  ∀ (pins : List (Addr × Obj)) (s : Shared) (σ : St) (H : Hp) (Q : VK), Inv X pins σ H s → t σ H Q →
    wpAny (model X.prog X.w) X.A (eval a X.env) (fun v s₁ => wpAny (model X.prog X.w) X.A (eval b X.env) (fun u s₂ => wpAny (model X.prog X.w) X.A (compareOp op v u) (EP X pins σ Q) X.xe s₂) X.xe s₁) X.xe s
theorem nobehind (b : Expr) {op : CmpOp} (h : op ≠ .In) (h2 : op ≠ .NotIn) : behindInMarks op b = false := by
  have e1 : (op == CmpOp.In) = false := by cases op <;> first | rfl | exact absurd rfl h
  have e2 : (op == CmpOp.NotIn) = false := by cases op <;> first | rfl | exact absurd rfl h2
  cases b <;> simp [behindInMarks, e1, e2]
/-- is None -/
def tIsN (ta : TE) : TE := fun σ H Q => ta σ H fun x H1 => Q (.bl (decide (x = .non))) H1
def tNotN (ta : TE) : TE := fun σ H Q => ta σ H fun x H1 => Q (.bl (!decide (x = .non))) H1
theorem RelV.none_iff {x : V} {v : Value} (r : RelV x v) : (v == Value.none) = decide (x = .non) := by
  cases x with
  | non => cases r; rfl
  | bl _ => cases r; rfl
  | int _ => obtain ⟨t, rfl⟩ := r; rfl
  | str _ => obtain ⟨t, rfl⟩ := r; rfl
  | byt _ => obtain ⟨t, rfl⟩ := r; rfl
  | flt _ => obtain ⟨t, rfl⟩ := r; rfl
  | ref _ => cases r; rfl
  | ty _ => cases r; rfl
theorem pc_isN {j pos'} (ha : PE X a ta) : PC X .Is a (.Constant .none j pos') (tIsN ta) := by
  intro pins s σ H Q I h
  refine thn (ha pins s σ H _ I h) fun v s1 ⟨x, H1, I1, r1, q1⟩ => ?_
  exact Constant_none (is_none_gen ⟨.bl _, H1, I1, by rw [r1.none_iff]; rfl, q1⟩)
theorem pc_notN {j pos'} (ha : PE X a ta) : PC X .IsNot a (.Constant .none j pos') (tNotN ta) := by
  intro pins s σ H Q I h
  refine thn (ha pins s σ H _ I h) fun v s1 ⟨x, H1, I1, r1, q1⟩ => ?_
  exact Constant_none (isnot_none_gen ⟨.bl _, H1, I1, by rw [r1.none_iff]; rfl, q1⟩)
/-- a comparison as a value, as a test -/
def tB (t : TE) : TT := fun σ H Q => t σ H fun x H1 => ∃ c, x = .bl c ∧ Q c H1
theorem pe_cmp {op : CmpOp} {t : TE} (h : PC X op a b t) (h1 : behindInMarks op b = false := by first | exact nobehind _ (by decide) (by decide) | rfl) : PE X (.Compare a [op] [b] pos) t := fun pins s σ H Q I hw => wpAny_Compare1 (h pins s σ H Q I hw) h1
theorem pt_cmp {op : CmpOp} {t : TE} (h : PC X op a b t) (h1 : behindInMarks op b = false := by first | exact nobehind _ (by decide) (by decide) | rfl) : PT X (.Compare a [op] [b] pos) (tB t) := by
  intro pins s σ H Q I hw
  refine wpAny_isTrue_Compare1 (thn (h pins s σ H _ I hw) fun v s1 h1 => thn h1 fun u s2 h2 => thn h2 fun c s3 ⟨x, H1, I1, r1, q1⟩ => ?_) h1
  obtain ⟨d, rfl, q⟩ := q1
  cases r1
  exact wpAny_truthy_bool ⟨H1, I1, q⟩
/-- an expression whose value is a bool, as a test -/
theorem pt_val {e : Expr} {t : TE} (h : PE X e t) (he : ∀ whole, isTrue e X.env whole = (do let v ← whole; standAt e.pos; holding [v] (truthy v)) := by intro _; rfl) : PT X e (tB t) := by
  intro pins s σ H Q I hw
  refine isTrue_plain (thn (h pins s σ H _ I hw) fun v s1 ⟨x, H1, I1, r1, q1⟩ => ?_) (he _)
  obtain ⟨d, rfl, q⟩ := q1
  cases r1
  exact wpAny_truthy_bool ⟨H1, I1, q⟩

/-! ### and, or, not -/
variable {tA tB' : TT} {rest : List Expr}
def tAnd (t u : TT) : TT := fun σ H Q => t σ H fun c H1 => if c = true then u σ H1 Q else Q false H1
def tOr (t u : TT) : TT := fun σ H Q => t σ H fun c H1 => if c = true then Q true H1 else u σ H1 Q
def tNot (t : TT) : TT := fun σ H Q => t σ H fun c H1 => Q (!c) H1
theorem pw_and1 (ha : PT X a tA) : PW X (.BoolOp .And [a] pos) tA := by
  intro wh pins s σ H Q I h
  refine isTrue_and (thn (ha pins s σ H Q I h) fun c s1 e => ?_)
  cases c with
  | true => exact isTrue_and_nil e
  | false => exact e
theorem pw_or1 (ha : PT X a tA) : PW X (.BoolOp .Or [a] pos) tA := by
  intro wh pins s σ H Q I h
  refine isTrue_or (thn (ha pins s σ H Q I h) fun c s1 e => ?_)
  cases c with
  | false => exact isTrue_or_nil e
  | true => exact e
theorem pw_and (ha : PT X a tA) (hb : PW X (.BoolOp .And (b :: rest) pos) tB') : PW X (.BoolOp .And (a :: b :: rest) pos) (tAnd tA tB') := by
  intro wh pins s σ H Q I h
  refine isTrue_and (thn (ha pins s σ H _ I h) fun c s1 ⟨H1, I1, q1⟩ => ?_)
  cases c with
  | true => exact hb wh pins s1 σ H1 Q I1 q1
  | false => exact ⟨H1, I1, q1⟩
theorem pw_or (ha : PT X a tA) (hb : PW X (.BoolOp .Or (b :: rest) pos) tB') : PW X (.BoolOp .Or (a :: b :: rest) pos) (tOr tA tB') := by
  intro wh pins s σ H Q I h
  refine isTrue_or (thn (ha pins s σ H _ I h) fun c s1 ⟨H1, I1, q1⟩ => ?_)
  cases c with
  | true => exact ⟨H1, I1, q1⟩
  | false => exact hb wh pins s1 σ H1 Q I1 q1
theorem pt_not (ha : PT X a tA) : PT X (.UnaryOp .Not a pos) (tNot tA) := by
  intro pins s σ H Q I h
  exact isTrue_not (ha pins s σ H (fun c H1 => Q (!c) H1) I h)
/-- .. as values (bools) -/
def tAndV (ta tb : TE) : TE := fun σ H Q => ta σ H fun x H1 => ∃ c, x = .bl c ∧ if c = true then tb σ H1 Q else Q (.bl false) H1
def tNotV (ta : TE) : TE := fun σ H Q => ta σ H fun x H1 => ∃ c, x = .bl c ∧ Q (.bl (!c)) H1
theorem pe_one {op} {t : TE} (h : PE X a t) : PE X (.BoolOp op [a] pos) t := fun pins s σ H Q I hw => BoolOp_one (h pins s σ H Q I hw)
theorem pe_and (ha : PE X a ta) (hb : PE X (.BoolOp .And (b :: rest) pos) tb) : PE X (.BoolOp .And (a :: b :: rest) pos) (tAndV ta tb) := by
  intro pins s σ H Q I h
  refine BoolOp_and (thn (ha pins s σ H _ I h) fun v s1 ⟨x, H1, I1, r1, q1⟩ => ?_)
  obtain ⟨c, rfl, q1⟩ := q1
  cases r1
  refine wpAny_truthy_bool ?_
  cases c with
  | true => exact hb pins s1 σ H1 Q I1 q1
  | false => exact ⟨.bl false, H1, I1, rfl, q1⟩
theorem pe_not (ha : PE X a ta) : PE X (.UnaryOp .Not a pos) (tNotV ta) := by
  intro pins s σ H Q I h
  refine UnaryOp_ (thn (ha pins s σ H _ I h) fun v s1 ⟨x, H1, I1, r1, q1⟩ => ?_)
  obtain ⟨c, rfl, q1⟩ := q1
  cases r1
  exact not_of (wpAny_truthy_bool ⟨.bl (!c), H1, I1, rfl, q1⟩)
/-- a if t else b -/
def tIf (t : TT) (ta tb : TE) : TE := fun σ H Q => t σ H fun c H1 => if c = true then ta σ H1 Q else tb σ H1 Q
theorem pe_ifExp {c : Expr} (hc : PT X c tA) (ha : PE X a ta) (hb : PE X b tb) : PE X (.IfExp c a b pos) (tIf tA ta tb) := by
  intro pins s σ H Q I h
  refine wpAny_IfExp (thn (hc pins s σ H _ I h) fun d s1 ⟨H1, I1, q1⟩ => ?_)
  cases d with
  | true => exact ha pins s1 σ H1 Q I1 q1
  | false => exact hb pins s1 σ H1 Q I1 q1
end
end L2

namespace L2
open PySem PySem.Spec PyProof.Rows

/-! ### a list, a tuple that is read: tracked, frozen, or an object of the module -/
def SqL (K : PySem.W.Frag) (H : Hp) (a : Addr) (xs : List V) : Prop :=
  Rd H a (.lst xs) ∨
    ∃ (o : Obj) (its : Array Value) (n : Nat), K.lookup a = some o ∧ o.cls = .type "list" ∧ o.dict = none ∧ o.data = .seq its n ∧ its.size ≤ sizeLine ∧ Vals xs its.toList
def SqT (K : PySem.W.Frag) (H : Hp) (a : Addr) (xs : List V) : Prop :=
  Rd H a (.tup xs) ∨
    ∃ (o : Obj) (its : Array Value) (n : Nat), K.lookup a = some o ∧ o.cls = .type "tuple" ∧ o.data = .seq its n ∧ its.size ≤ sizeLine ∧ Vals xs its.toList
def absV : Value → Option V
  | .none => some .non
  | .bool b => some (.bl b)
  | .int i _ => some (.int i)
  | .str x _ => some (.str x)
  | .bytes b _ => some (.byt b)
  | .float b _ => some (.flt b)
  | .ref a => some (.ref a)
  | .type n => some (.ty n)
  | _ => none
theorem RelV.abs {x : V} {u : Value} (r : RelV x u) : absV u = some x := by
  cases x with
  | non => cases r; rfl
  | bl _ => cases r; rfl
  | int _ => obtain ⟨t, rfl⟩ := r; rfl
  | str _ => obtain ⟨t, rfl⟩ := r; rfl
  | byt _ => obtain ⟨t, rfl⟩ := r; rfl
  | flt _ => obtain ⟨t, rfl⟩ := r; rfl
  | ref _ => cases r; rfl
  | ty _ => cases r; rfl
theorem RelV.inj {x y : V} {u : Value} (r : RelV x u) (q : RelV y u) : x = y := Option.some.inj (r.abs.symm.trans q.abs)
theorem Vals.inj : ∀ {xs ys : List V} {us : List Value}, Vals xs us → Vals ys us → xs = ys
  | _, _, _, .nil, .nil => rfl
  | _, _, _, .cons r t, .cons r' t' => by rw [r.inj r', Vals.inj t t']
section
variable {X : Cx} {pins : List (Addr × Obj)} {σ : St} {H : Hp} {s : Shared} {a : Addr} {xs ys : List V}
theorem SqL.of {K : PySem.W.Frag} (h : H a = some (.lst xs)) : SqL K H a xs := .inl (.inl h)
theorem SqT.of {K : PySem.W.Frag} (h : H a = some (.tup xs)) : SqT K H a xs := .inl (.inl h)
theorem Inv.list (I : Inv X pins σ H s) (h : SqL X.K H a xs) : ∃ its : List Value, Vals xs its ∧ PlainL s.heap a its.toArray ∧ xs.length ≤ sizeLine := by
  rcases h with h | ⟨o, its, n, hk, hc, hd, hs, hz, r⟩
  · obtain ⟨z, its, n, r, e⟩ := h.ok I.hok
    exact ⟨its, r, ⟨_, n, e, rfl, rfl, rfl⟩, z⟩
  · refine ⟨its.toList, r, ⟨o, n, I.kIn a o hk, hc, hd, by simpa using hs⟩, ?_⟩
    have e := r.length
    simp only [Array.length_toList] at e
    omega
theorem Inv.tuple (I : Inv X pins σ H s) (h : SqT X.K H a xs) : ∃ its : List Value, Vals xs its ∧ IsTup s.heap a its.toArray ∧ xs.length ≤ sizeLine := by
  rcases h with h | ⟨o, its, n, hk, hc, hs, hz, r⟩
  · obtain ⟨z, its, r, p⟩ := h.ok I.hok
    exact ⟨its, r, p, z⟩
  · refine ⟨its.toList, r, ⟨o, I.kIn a o hk, hc, n, by simpa using hs⟩, ?_⟩
    have e := r.length
    simp only [Array.length_toList] at e
    omega
theorem Inv.list_inj (I : Inv X pins σ H s) (h : SqL X.K H a xs) (h' : SqL X.K H a ys) : xs = ys := by
  obtain ⟨its, r, ⟨o, n, e, _, _, d⟩, _⟩ := I.list h
  obtain ⟨its', r', ⟨o', n', e', _, _, d'⟩, _⟩ := I.list h'
  rw [e] at e'; cases e'
  rw [d] at d'
  injection d' with d1 _
  have : its = its' := by simpa using congrArg Array.toList d1
  subst this
  exact r.inj r'
theorem Inv.tuple_inj (I : Inv X pins σ H s) (h : SqT X.K H a xs) (h' : SqT X.K H a ys) : xs = ys := by
  obtain ⟨its, r, ⟨o, e, _, n, d⟩, _⟩ := I.tuple h
  obtain ⟨its', r', ⟨o', e', _, n', d'⟩, _⟩ := I.tuple h'
  rw [e] at e'; cases e'
  rw [d] at d'
  injection d' with d1 _
  have : its = its' := by simpa using congrArg Array.toList d1
  subst this
  exact r.inj r'
end

/-! ### another wish about exceptions -/
abbrev Cx.wish (X : Cx) (E : Value → Shared → Prop) : Cx := { X with xe := E }
/-- no exception leaves -/
abbrev Cx.nox (X : Cx) : Cx := X.wish fun _ _ => False
theorem Cx.Ok.wish {X : Cx} (ok : X.Ok) (E : Value → Shared → Prop) : (X.wish E).Ok :=
  ⟨ok.mod, ok.kind, ok.glob, ok.blt, ok.above, ok.inj, ok.has, ok.cab, ok.hd, ok.frames, ok.stk, ok.exf, ok.bs, ok.bsz, ok.noex, ok.exfs, ok.funs, ok.frf⟩
theorem Cx.Ok.unwish {X : Cx} {E : Value → Shared → Prop} (ok : (X.wish E).Ok) : X.Ok :=
  ⟨ok.mod, ok.kind, ok.glob, ok.blt, ok.above, ok.inj, ok.has, ok.cab, ok.hd, ok.frames, ok.stk, ok.exf, ok.bs, ok.bsz, ok.noex, ok.exfs, ok.funs, ok.frf⟩
section
variable {X : Cx} {pins : List (Addr × Obj)} {σ : St} {H : Hp} {s : Shared} {E : Value → Shared → Prop}
theorem Inv.wish (I : Inv X pins σ H s) (E : Value → Shared → Prop) : Inv (X.wish E) pins σ H s := ⟨I.ok.wish E, I.os, I.bare, I.base, I.loc, I.cell, I.free, I.freeC, I.pin, I.hok, I.len⟩
theorem Inv.unwish (I : Inv (X.wish E) pins σ H s) : Inv X pins σ H s := ⟨I.ok.unwish, I.os, I.bare, I.base, I.loc, I.cell, I.free, I.freeC, I.pin, I.hok, I.len⟩
theorem SP.unwish {D : Ends} {f : Flow} {s' : Shared} (h : SP (X.wish E) pins D f s') : SP X pins D f s' := by
  cases f with
  | next => obtain ⟨σ', H', I, q⟩ := h; exact ⟨σ', H', I.unwish, q⟩
  | brk => obtain ⟨σ', H', I, q⟩ := h; exact ⟨σ', H', I.unwish, q⟩
  | cont => obtain ⟨σ', H', I, q⟩ := h; exact ⟨σ', H', I.unwish, q⟩
  | ret u => obtain ⟨v, σ', H', I, r, q⟩ := h; exact ⟨v, σ', H', I.unwish, r, q⟩
theorem PSs.nox {st : List Stmt} {t : TS} (h : PSs X.nox st t) : PSs X st t := fun pins s σ H D I hw =>
  wpAny_mono (h pins s σ H D (I.wish _) hw) (fun _ _ q => q.unwish) fun _ _ z => False.elim z
end

/-! ### blocks and small statements -/
section
variable {X : Cx} {st : Stmt} {rest : List Stmt} {t u : TS} {e : Expr} {te : TE} {pos : Pos}
def tNext : TS := fun D σ H => D.nx σ H
def tSeq (t u : TS) : TS := fun D σ H => t { D with nx := u D } σ H
theorem pss_nil : PSs X [] tNext := fun _ _ σ H _ I h => wpAny_execs_nil ⟨σ, H, I, h⟩
theorem pss_cons (h1 : PS X st t) (h2 : PSs X rest u) : PSs X (st :: rest) (tSeq t u) := by
  intro pins s σ H D I h
  refine wpAny_execs_cons (thn (h1 pins s σ H { D with nx := u D } I h) fun f s1 q => ?_)
  cases f with
  | next =>
    obtain ⟨σ', H', I', q⟩ := q
    exact h2 pins s1 σ' H' D I' q
  | ret v => exact q
  | brk => exact q
  | cont => exact q
theorem pss_one (h1 : PS X st t) : PSs X [st] t := by
  intro pins s σ H D I h
  refine wpAny_execs_cons (thn (h1 pins s σ H D I h) fun f s1 q => ?_)
  cases f with
  | next => exact wpAny_execs_nil q
  | ret v => exact q
  | brk => exact q
  | cont => exact q
def tBreak : TS := fun D σ H => D.bk σ H
theorem ps_break : PS X (.Break pos) tBreak := fun _ _ σ H _ I h => wpAny_Break ⟨σ, H, I, h⟩
/-- in a def's body nothing is shown -/
theorem Inv.quiet {pins : List (Addr × Obj)} {σ : St} {H : Hp} {s : Shared} (I : Inv X pins σ H s) : interactive X.env = false := by simp [interactive, I.ok.kind]
/-- an expression whose value is dropped -/
def tDrop (te : TE) : TS := fun D σ H => te σ H fun _ H1 => D.nx σ H1
theorem ps_expr (he : PE X e te) (hs : swapsWith e none pos.line X.env = pure false := by rfl) : PS X (.Expr e pos) (tDrop te) := by
  intro pins s σ H D I h
  exact wpAny_Expr_any (thn (he pins s σ H _ I h) fun v s1 ⟨x, H1, I1, r1, q1⟩ => ⟨σ, H1, I1, q1⟩) I.quiet hs
def tRet (te : TE) : TS := fun D σ H => te σ H D.rt
theorem ps_ret (he : PE X e te) : PS X (.Return (some e) pos) (tRet te) := by
  intro pins s σ H D I h
  exact wpAny_Return_some (thn (he pins s σ H _ I h) fun v s1 ⟨x, H1, I1, r1, q1⟩ => ⟨x, σ, H1, I1, r1, q1⟩)
def tIfS (c : TT) (t u : TS) : TS := fun D σ H => c σ H fun b H1 => if b = true then t D σ H1 else u D σ H1
theorem ps_if {c : Expr} {a b : List Stmt} {tc : TT} (hc : PT X c tc) (ha : PSs X a t) (hb : PSs X b u) : PS X (.If c a b pos) (tIfS tc t u) := by
  intro pins s σ H D I h
  refine wpAny_If (thn (hc pins s σ H _ I h) fun d s1 ⟨H1, I1, q1⟩ => ?_)
  cases d with
  | true => exact ha pins s1 σ H1 D I1 q1
  | false => exact hb pins s1 σ H1 D I1 q1
/-- code that the proof never comes to -/
def tNever : TS := fun _ _ _ => False
theorem ps_never : PS X st tNever := fun _ _ _ _ _ _ h => h.elim
end

/-! ### targets -/
abbrev TG := V → St → Hp → (St → Hp → Prop) → Prop
abbrev TGs := List V → St → Hp → (St → Hp → Prop) → Prop
def PG (X : Cx) (target : Expr) (t : TG) : Prop :=
  ∀ (pins : List (Addr × Obj)) (s : Shared) (σ : St) (H : Hp) (v : V) (u : Value) (Q : St → Hp → Prop), Inv X pins σ H s → RelV v u → t v σ H Q →
    wpAny (model X.prog X.w) X.A (assign target X.env u) (fun _ s' => ∃ σ' H', Inv X pins σ' H' s' ∧ Q σ' H') X.xe s
/-- several targets, one after another -/
def PGs (X : Cx) (ts : List Expr) (t : TGs) : Prop :=
  ∀ (pins : List (Addr × Obj)) (s : Shared) (σ : St) (H : Hp) (vs : List V) (us : List Value) (Q : St → Hp → Prop), Inv X pins σ H s → Vals vs us → t vs σ H Q →
    wpAny (model X.prog X.w) X.A (assignInOrder ((assignEach ts X.env).map (·.2)) us) (fun _ s' => ∃ σ' H', Inv X pins σ' H' s' ∧ Q σ' H') X.xe s
/-- o[i] = v, by values -/
abbrev TSet := V → V → V → Hp → (Hp → Prop) → Prop
def PSet (X : Cx) (t : TSet) : Prop :=
  ∀ (pins : List (Addr × Obj)) (s : Shared) (σ : St) (H : Hp) (o i v : V) (ov iv u : Value) (Q : Hp → Prop), Inv X pins σ H s → RelV o ov → RelV i iv → RelV v u → t o i v H Q →
    wpAny (model X.prog X.w) X.A (setItem ov iv u) (fun _ s' => ∃ H', Inv X pins σ H' s' ∧ Q H') X.xe s
/-- a op= b, by values -/
abbrev TIp := V → V → Hp → VK → Prop
def PIp (X : Cx) (op : Operator) (t : TIp) : Prop :=
  ∀ (pins : List (Addr × Obj)) (s : Shared) (σ : St) (H : Hp) (x y : V) (v u : Value) (Q : VK), Inv X pins σ H s → RelV x v → RelV y u → t x y H Q →
    wpAny (model X.prog X.w) X.A (inplaceOp op v u) (EP X pins σ Q) X.xe s
section
variable {X : Cx} {pos : Pos}
def gName (i : Nat) : TG := fun v σ H Q => Q (σ.set i (some v)) H
theorem pg_name {i : Nat} {x : Str} (hN : X.N.Nodup) (hi : X.N[i]? = some x) (hx : Loc X.env.scope x) (hf : X.fn x = true ∨ X.env.scope.names.lookup x = some .local := by first | exact .inl rfl | exact .inr rfl | assumption) : PG X (.Name x pos) (gName i) := by
  intro pins s σ H v u Q I r h
  exact wpAny_assign_Name (store_ok I hN hi hx r (fun s' I' => ⟨_, H, I', h⟩) hf)
def gNil : TGs := fun vs σ H Q => vs = [] ∧ Q σ H
def gCons (t : TG) (u : TGs) : TGs := fun vs σ H Q => ∃ v r, vs = v :: r ∧ t v σ H fun σ' H' => u r σ' H' Q
theorem pgs_nil : PGs X [] gNil := by
  intro pins s σ H vs us Q I r h
  obtain ⟨e, h⟩ := h
  subst e
  cases r
  exact assignInOrder_nil ⟨σ, H, I, h⟩
theorem pgs_cons {e : Expr} {es : List Expr} {t : TG} {u : TGs} (h1 : PG X e t) (h2 : PGs X es u)
    (hs : (assignEach (e :: es) X.env).map (·.2) = assign e X.env :: (assignEach es X.env).map (·.2) := by rfl) : PGs X (e :: es) (gCons t u) := by
  intro pins s σ H vs us Q I r h
  obtain ⟨v, vr, e1, h⟩ := h
  subst e1
  cases r with
  | cons r rr =>
    rw [hs]
    refine assignInOrder_cons (thn (h1 pins s σ H _ _ _ I r h) fun _ s1 ⟨σ1, H1, I1, q1⟩ => ?_)
    exact h2 pins s1 σ1 H1 _ _ Q I1 rr q1
/-- (a, b, ..) = a tuple of that length -/
def gTup (K : PySem.W.Frag) (n : Nat) (t : TGs) : TG := fun v σ H Q => ∃ a xs, v = .ref a ∧ SqT K H a xs ∧ xs.length = n ∧ t xs σ H Q
theorem pg_tup {es : List Expr} {k : Nat} {t : TGs} {n : Nat} (hc : X.calm = true) (h : PGs X es t)
    (hn : (assignEach es X.env).length = n := by rfl) (hst : (assignEach es X.env).findIdx? (·.1) = none := by rfl) : PG X (.Tuple es k pos) (gTup X.K n t) := by
  intro pins s σ H v u Q I r hw
  obtain ⟨a, xs, e1, hq, hl, hw⟩ := hw
  subst e1
  cases r
  obtain ⟨its, rv, ht, hz⟩ := I.tuple hq
  refine assign_Tuple_tuple (I.ok.hd hc) ht (by simp [hn, ← hl, rv.length]) hst fun h' hx => ?_
  have I1 : Inv X pins σ H { s with heap := h' } := I.kept (t' := s.toks) fun b o e => hx b o (Nat.ne_of_lt (Heap.lt_size e)) e
  exact h pins _ σ H xs _ Q I1 (by simpa using rv) hw
/-- o[i] = .. -/
def gSub (to ti : TE) (t : TSet) : TG := fun v σ H Q => to σ H fun o H1 => ti σ H1 fun i H2 => t o i v H2 fun H3 => Q σ H3
theorem pg_sub {o i : Expr} {to ti : TE} {t : TSet} (ho : PE X o to) (hi : PE X i ti) (hs : PSet X t)
    (ha : ∀ v, assign (.Subscript o i pos) X.env v = (do
      let ov ← holding [v] (eval o X.env)
      let iv ← holding [v, ov] (eval i X.env)
      standAt pos
      holding [v, ov, iv] (setItem ov iv v)
      release [v, ov, iv] []) := by intro _; rfl) : PG X (.Subscript o i pos) (gSub to ti t) := by
  intro pins s σ H v u Q I r h
  rw [ha]
  refine wpAny_bind (wpAny_holding (thn (ho pins s σ H _ I h) fun ov s1 ⟨x, H1, I1, r1, q1⟩ => ?_))
  refine wpAny_bind (wpAny_holding (thn (hi pins s1 σ H1 _ I1 q1) fun iv s2 ⟨y, H2, I2, r2, q2⟩ => ?_))
  refine wpAny_bind (wpAny_standAt (wpAny_bind (wpAny_holding (thn (hs pins s2 σ H2 x y v ov iv u _ I2 r1 r2 r q2) fun _ s3 ⟨H3, I3, q3⟩ => ?_))))
  exact wpAny_release ⟨σ, H3, I3, q3⟩
/-- target = value -/
def tAsg (te : TE) (g : TG) : TS := fun D σ H => te σ H fun x H1 => g x σ H1 D.nx
theorem ps_asg {tg e : Expr} {te : TE} {g : TG} (he : PE X e te) (hg : PG X tg g) (hs : swapsWithSole [tg] e pos.line X.env = pure false := by rfl) (hw : swappedStores [tg] e X.env = pure none := by rfl)
    (h1 : (assignEach [tg] X.env).map (·.2) = [assign tg X.env] := by rfl) : PS X (.Assign [tg] e pos) (tAsg te g) := by
  intro pins s σ H D I h
  refine wpAny_Assign_stores (thn (he pins s σ H _ I h) fun v s1 ⟨x, H1, I1, r1, q1⟩ => ?_) hs hw
  rw [h1]
  exact thn (hg pins s1 σ H1 x v _ I1 r1 q1) fun _ s2 q => q
/-- name = value -/
theorem ps_set {i : Nat} {x : Str} {e : Expr} {te : TE} {pos' : Pos} (hN : X.N.Nodup) (hi : X.N[i]? = some x) (hx : Loc X.env.scope x) (he : PE X e te) (hs : swapsWith e (some (.Name x pos')) pos.line X.env = pure false := by rfl) (hf : X.fn x = true ∨ X.env.scope.names.lookup x = some .local := by first | exact .inl rfl | exact .inr rfl | assumption) :
    PS X (.Assign [.Name x pos'] e pos) (tAsg te (gName i)) := by
  intro pins s σ H D I h
  refine wpAny_Assign_Name (thn (he pins s σ H _ I h) fun v s1 ⟨y, H1, I1, r1, q1⟩ => ?_) hs
  exact store_ok I1 hN hi hx r1 (fun s2 I2 => ⟨_, H1, I2, q1⟩) hf
/-- a, b = x, y with plain local names: stored from the right; the pair itself is not tracked (the opening rows as in PyProof/Rows/TupAssign.lean:23) -/
def tPar (i j : Nat) (ta : TA) : TS := fun D σ H => ta σ H fun vs H1 => ∃ v w, vs = [v, w] ∧ D.nx ((σ.set i (some v)).set j (some w)) H1
theorem ps_par {i j : Nat} {x y : Str} {a b : Expr} {ta : TA} {px py pt : Pos} {kt k2 pt2} (hc : X.calm = true) (hN : X.N.Nodup) (hi : X.N[i]? = some x) (hj : X.N[j]? = some y) (hij : i ≠ j)
    (hx : X.env.scope.names.lookup x = some .local) (hy : X.env.scope.names.lookup y = some .local) (ha : PA X [a, b] ta)
    (hw : swappedStores [.Tuple [.Name x px, .Name y py] kt pt] (.Tuple [a, b] k2 pt2) X.env = pure (some [x, y]))
    (hs : swapsWithSole [.Tuple [.Name x px, .Name y py] kt pt] (.Tuple [a, b] k2 pt2) pos.line X.env = pure false := by rfl) :
    PS X (.Assign [.Tuple [.Name x px, .Name y py] kt pt] (.Tuple [a, b] k2 pt2) pos) (tPar i j ta) := by
  intro pins s σ H D I h
  rw [exec_Assign_arm]
  refine wpAny_bind (wpAny_standAt ?_)
  rw [hs]
  refine wpAny_bind (wpAny_pure ?_)
  rw [if_neg (by decide)]
  refine wpAny_bind (Tuple_ (thn (ha _ pins s σ H _ I h) fun us s1 ⟨vs, H1, I1, r1, q1⟩ => ?_))
  obtain ⟨v, w, e1, q1⟩ := q1
  subst e1
  obtain ⟨u1, u2, rfl, rv, rw'⟩ : ∃ u1 u2, us = [u1, u2] ∧ RelV v u1 ∧ RelV w u2 := by
    cases r1 with
    | cons p q =>
      cases q with
      | cons p' q' =>
        cases q'
        exact ⟨_, _, rfl, p, p'⟩
  refine wpAny_newObj_type ?_ (by show 2 ≤ sizeLine; decide)
  have I2 : Inv X pins σ H1 { s1 with heap := s1.heap.push { cls := .type "tuple", data := .seq [u1, u2].toArray } } := I1.kept (t' := s1.toks) fun b o e => Heap.get?_push_of_some _ e
  rw [hw]
  refine wpAny_bind (wpAny_pure ?_)
  show wpAny (model X.prog X.w) X.A (do rule "assign.swapped-stores"; let items ← unpackItems (.ref s1.heap.objs.size) 2 none; assignInOrder [fun v => bindName X.env y v, fun v => bindName X.env x v] items.reverse; pure Flow.next) _ _ _
  refine wpAny_bind (wpAny_rule (wpAny_bind (unpackItems_tuple (items := #[u1, u2]) (I.ok.hd hc) (IsTup.new s1.heap _) fun h' hx' => ?_)))
  have I3 := I2.kept (h' := h') (t' := s1.toks) fun b o e => hx' b o (Nat.ne_of_lt (Heap.lt_size e)) e
  show wpAny _ _ (assignInOrder [fun v => bindName X.env y v, fun v => bindName X.env x v] [u2, u1] >>= fun _ => pure Flow.next) _ _ _
  refine wpAny_bind (assignInOrder_cons (wpAny_bindName (store_ok I3 hN hj (.inl hy) rw' (fun s2 I4 => ?_) (.inr hy))))
  refine assignInOrder_cons (wpAny_bindName (store_ok I4 hN hi (.inl hx) rv (fun s3 I5 => assignInOrder_nil (wpAny_pure ?_)) (.inr hx)))
  rw [List.set_comm _ _ (Ne.symm hij)] at I5
  exact ⟨_, H1, I5, q1⟩
/-- name op= e -/
def tAug (i : Nat) (te : TE) (ti : TIp) : TS := fun D σ H => ∃ x, σ[i]? = some (some x) ∧ te σ H fun y H1 => ti x y H1 fun z H2 => D.nx (σ.set i (some z)) H2
theorem ps_aug {i : Nat} {x : Str} {e : Expr} {te : TE} {op : Operator} {ti : TIp} {pos' : Pos} (hN : X.N.Nodup) (hi : X.N[i]? = some x) (hx : Loc X.env.scope x) (he : PE X e te) (ho : PIp X op ti) (hf : X.fn x = true ∨ X.env.scope.names.lookup x = some .local := by first | exact .inl rfl | exact .inr rfl | assumption) :
    PS X (.AugAssign (.Name x pos') op e pos) (tAug i te ti) := by
  intro pins s σ H D I h
  obtain ⟨v, e1, h⟩ := h
  obtain ⟨m, hn, hl⟩ := I.loc
  have vis : Vis X.env.scope x := by rcases hx with k | k; exact .inl k; exact .inr (.inl k)
  obtain ⟨u, r, l⟩ := hl i x v hi e1 vis
  refine wpAny_AugAssign_Name ?_
  have go : wpAny (model X.prog X.w) X.A (eval e X.env) (fun w s₂ => wpAny (model X.prog X.w) X.A (inplaceOp op u w) (fun r s₃ => wpAny (model X.prog X.w) X.A (storeName X.env x r) (fun _ => SP X pins D .next) X.xe s₃) X.xe s₂) X.xe s := by
    refine thn (he pins s σ H _ I h) fun w s1 ⟨y, H1, I1, r1, q1⟩ => ?_
    refine thn (ho pins s1 σ H1 v y u w _ I1 r r1 q1) fun z s2 ⟨zv, H2, I2, r2, q2⟩ => ?_
    exact store_ok I2 hN hi hx r2 (fun s3 I3 => ⟨_, H2, I3, q2⟩) hf
  rcases l with ⟨hk, hm⟩ | ⟨hk, c, hc, hcell⟩
  · exact wpAny_loadName_local I.ok.kind hk hn hm go
  · rcases hk with hk | hk
    · exact wpAny_loadName_cell I.ok.kind hk hc hcell go
    · rcases hx with k | k
      · have : X.env.scope.names.lookup x = some .free := hk
        rw [k] at this; cases this
      · have : X.env.scope.names.lookup x = some .free := hk
        rw [k] at this; cases this
/-- ints -/
def ipI (f : Int → Int → Int) : TIp := fun x y H Q => ∃ i j, x = .int i ∧ y = .int j ∧ Q (.int (f i j)) H
theorem ip_add : PIp X .Add (ipI fun i j => i + j) := by
  intro pins s σ H x y v u Q I r1 r2 h
  obtain ⟨i, j, e1, e2, q⟩ := h
  subst e1; subst e2
  obtain ⟨t, rfl⟩ := r1
  obtain ⟨t', rfl⟩ := r2
  exact iadd_int ⟨.int _, H, I.tok _, ⟨_, rfl⟩, q⟩
end

/-! ### while -/
section
variable {X : Cx} {pos : Pos}
/-- the invariant W with its measure -/
def tWhile (c : TT) (tb : TS) : TS := fun D σ H => ∃ W : Nat → St → Hp → Prop, (∃ m, W m σ H) ∧ ∀ m σ H, W m σ H →
  c σ H fun b H1 => if b = true then ∃ N : St → Hp → Prop, (∀ σ' H', N σ' H' → ∃ m', m' < m ∧ W m' σ' H') ∧ tb { D with nx := N, ct := N, bk := D.nx } σ H1 else D.nx σ H1
theorem ps_while {c : Expr} {body : List Stmt} {tc : TT} {tb : TS} (hp : PassesOwn (model X.prog X.w) X.A X.env X.xe) (hc : PT X c tc) (hb : PSs X body tb) : PS X (.While c body [] pos) (tWhile tc tb) := by
  intro pins s σ H D I h
  obtain ⟨W, ⟨m0, w0⟩, turn⟩ := h
  refine wpAny_While (codeAny_whileLoop (fun n s' => ∃ σ' H', Inv X pins σ' H' s' ∧ W n σ' H') ?_ m0 ⟨σ, H, I, w0⟩)
  rintro n s1 ⟨σ1, H1, I1, w1⟩
  refine wpAny_passesOwn hp (thn (hc pins s1 σ1 H1 _ I1 (turn n σ1 H1 w1)) fun b s2 ⟨H2, I2, q2⟩ => ?_)
  cases b with
  | true =>
    obtain ⟨N, hN, q2⟩ := q2
    rw [if_pos rfl]
    refine wpAny_passesOwn hp (thn (hb pins s2 σ1 H2 _ I2 q2) fun f s3 q3 => ?_)
    cases f with
    | next =>
      obtain ⟨σ3, H3, I3, n3⟩ := q3
      obtain ⟨m', hm, w3⟩ := hN σ3 H3 n3
      exact ⟨m', hm, σ3, H3, I3, w3⟩
    | cont =>
      obtain ⟨σ3, H3, I3, n3⟩ := q3
      obtain ⟨m', hm, w3⟩ := hN σ3 H3 n3
      exact ⟨m', hm, σ3, H3, I3, w3⟩
    | brk => exact q3
    | ret v => exact q3
  | false =>
    rw [if_neg Bool.false_ne_true]
    exact wpAny_execs_nil ⟨σ1, H2, I2, q2⟩
end

/-! ### what a loop or a comprehension walks -/
/-- at turn i: it yields x (the heap may grow), or it stops -/
structure It where
  go : Nat → Hp → Prop
  yld : Nat → Hp → V → Hp → Prop
  stop : Nat → Hp → Prop
/-- the iterator's own objects may turn: they are not the frame's, not pinned, younger than the entry (or a comprehension's own) -/
def FpOk (X : Cx) (pins : List (Addr × Obj)) (H : Hp) (b : Addr) : Prop :=
  H b = none ∧ b ≠ X.env.locals ∧ b ∉ X.fs ∧ (b ∈ X.ex ∨ X.s_0.heap.objs.size ≤ b) ∧ (∀ x c, X.env.cells.lookup x = some c → c ≠ b) ∧ ∀ p ∈ X.pn ++ pins, p.1 ≠ b
theorem Inv.fpOk {X : Cx} {pins : List (Addr × Obj)} {σ : St} {H H' : Hp} {s : Shared} {b : Addr} (I : Inv X pins σ H s) (hb : s.heap.objs.size ≤ b) (hn : H' b = none) : FpOk X pins H' b := by
  refine ⟨hn, Nat.ne_of_gt (Nat.lt_of_lt_of_le I.lt hb), I.nofs hb, .inr (Nat.le_trans I.sz hb), fun x c e z => ?_, fun p hp z => ?_⟩
  · obtain ⟨v, q⟩ := I.cell x c e
    exact absurd (Nat.lt_of_lt_of_le q.lt (by rw [z]; exact hb)) (Nat.lt_irrefl _)
  · exact absurd (Nat.lt_of_lt_of_le (Heap.lt_size (I.pin p hp).1) (by rw [z]; exact hb)) (Nat.lt_irrefl _)
structure Turn (P : Program) (w : World) (K : PySem.W.Frag) (tg : Expr) (J : It) (fp : List Addr) (it : Addr) (tn : Nat → Heap → Prop) : Prop where
  mem : it ∈ fp
  obj : ∀ i h, tn i h → ∀ b ∈ fp, ∃ o, h.get? b = some o ∧ ∀ v, o.data ≠ .cell v
  keep : ∀ i h h', tn i h → (∀ b ∈ fp, ∀ o, h.get? b = some o → h'.get? b = some o) → tn i h'
  item : ∀ (X : Cx), X.prog = P → X.w = w → X.K = K → X.calm = true → ∀ (i : Nat) (pins : List (Addr × Obj)) (s : Shared) (σ : St) (H : Hp) (E : Value → Shared → Prop), Inv X pins σ H s → (∀ b ∈ fp, FpOk X pins H b) → tn i s.heap → J.go i H →
    wpAny (model P w) X.A (pyNext (.ref it)) (fun r s1 => ∃ u, r = some u ∧
      wpAny (model P w) X.A (letOwnedTupleGo tg (.ref it) u) (fun _ s2 => ∃ x H', Inv X pins σ H' s2 ∧ RelV x u ∧ J.yld i H x H' ∧ tn (i + 1) s2.heap ∧ ∀ b ∈ fp, H' b = none) E s1) E s
  done : ∀ (X : Cx), X.prog = P → X.w = w → X.K = K → X.calm = true → ∀ (i : Nat) (pins : List (Addr × Obj)) (s : Shared) (σ : St) (H : Hp) (E : Value → Shared → Prop), Inv X pins σ H s → (∀ b ∈ fp, FpOk X pins H b) → tn i s.heap → J.stop i H →
    wpAny (model P w) X.A (pyNext (.ref it)) (fun r s1 => r = none ∧ Inv X pins σ H s1) E s
  self : ∀ (A : Around) (i : Nat) (s : Shared) (Q : Value → Shared → Prop) (E : Value → Shared → Prop), tn i s.heap → Q (.ref it) s → wpAny (model P w) A (pyIter (.ref it)) Q E s
abbrev TI := St → Hp → (It → Hp → Prop) → Prop
/-- an iterator has come -/
def PIE (X : Cx) (pins : List (Addr × Obj)) (σ : St) (tg : Expr) (R : It → Hp → Prop) (itv : Value) (s2 : Shared) : Prop :=
  ∃ (it : Addr) (fp : List Addr) (tn : Nat → Heap → Prop) (J : It) (H' : Hp), itv = .ref it ∧ Inv X pins σ H' s2 ∧ Turn X.prog X.w X.K tg J fp it tn ∧ tn 0 s2.heap ∧ (∀ b ∈ fp, FpOk X pins H' b) ∧ R J H'
def PI (X : Cx) (tg iter : Expr) (wi : TI) : Prop :=
  ∀ (pins : List (Addr × Obj)) (s : Shared) (σ : St) (H : Hp) (R : It → Hp → Prop), Inv X pins σ H s → wi σ H R →
    wpAny (model X.prog X.w) X.A (eval iter X.env) (fun v s1 => wpAny (model X.prog X.w) X.A (pyIter v) (PIE X pins σ tg R) X.xe s1) X.xe s

/-- the step ahead of the store is nothing for an iterator that keeps no tuple -/
theorem go_of {M : Model} {A : Around} {E : Value → Shared → Prop} {s : Shared} {tg : Expr} {it : Addr} {u : Value} {o : Obj} {n : String} {vs : Array Value} {Q : Unit → Shared → Prop} (ho : s.heap.get? it = some o) (hc : o.cls = .type n) (hd : o.data = .fields vs)
    (hn : ["enumerate", "zip", "dict_itemiterator", "dict_reverseitemiterator", "odict_iterator", "itertools.zip_longest", "itertools.pairwise"].contains n = false) (hQ : Q () s) : wpAny M A (letOwnedTupleGo tg (.ref it) u) Q E s := by
  unfold letOwnedTupleGo
  cases tg <;> first
    | exact wpAny_pure hQ
    | (cases u <;> first
        | exact wpAny_pure hQ
        | (refine wpAny_bind (wpAny_load ho ?_)
           rw [hc, hd]
           show wpAny M A (if (["enumerate", "zip", "dict_itemiterator", "dict_reverseitemiterator", "odict_iterator", "itertools.zip_longest", "itertools.pairwise"].contains n && vs[0]? == some (rawInt _)) = true then _ else _) Q E s
           rw [if_neg (by intro h; rw [hn, Bool.false_and] at h; cases h)]
           exact wpAny_pure hQ))

/-- the list at a, as it stands at each turn (a loop may append to it) -/
def Itl (K : PySem.W.Frag) (a : Addr) : It :=
  ⟨fun i H => ∃ xs x, SqL K H a xs ∧ xs[i]? = some x, fun i H x H' => H' = H ∧ ∀ xs, SqL K H a xs → xs[i]? = some x, fun i H => ∃ xs, SqL K H a xs ∧ xs.length ≤ i⟩
def Itt (K : PySem.W.Frag) (a : Addr) : It :=
  ⟨fun i H => ∃ xs x, SqT K H a xs ∧ xs[i]? = some x, fun i H x H' => H' = H ∧ ∀ xs, SqT K H a xs → xs[i]? = some x, fun i H => ∃ xs, SqT K H a xs ∧ xs.length ≤ i⟩
/-- lo, lo + 1, .. (n of them) -/
def Itr (lo : Int) (n : Nat) : It := ⟨fun i _ => i < n, fun i H x H' => H' = H ∧ x = .int (lo + i), fun i _ => n ≤ i⟩
theorem turn_list {P : Program} {w : World} {K : PySem.W.Frag} {tg : Expr} (a it : Addr) : Turn P w K tg (Itl K a) [it] it (fun i h => h.IsListIter it a i) where
  mem := by simp
  obj := fun i h st b hb => by
    have e : b = it := by simpa using hb
    subst e
    obtain ⟨o, e, c, d⟩ := st
    exact ⟨o, e, fun v z => by rw [d] at z; cases z⟩
  keep := fun i h h' st k => st.at fun o e => k it (by simp) o e
  item := by
    intro X hP hw hK hc i pins s σ H E I hf st hg
    subst hP hw hK
    obtain ⟨xs, x, hq, hx⟩ := hg
    obtain ⟨its, rv, p, hz⟩ := I.list hq
    obtain ⟨u, hu, ru⟩ := rv.get hx
    obtain ⟨f0, f1, f2, f3, f4, f5⟩ := hf it (by simp)
    refine wpAny_pyNext_list_item st p.isList (x := u) (by simpa using hu) fun h' st' sb => ?_
    have I1 : Inv X pins σ H { s with heap := h' } := I.turned (t' := s.toks) (fun b o hb e => (sb.2 b hb).trans e) f0 f1 f3 f4 f5
    obtain ⟨o, e, c, d⟩ := id st'
    exact ⟨u, rfl, go_of (s := { s with heap := h' }) e c d (by decide) ⟨x, H, I1, ru, ⟨rfl, fun ys hy => by rw [I.list_inj hy hq]; exact hx⟩, st', fun b hb => (hf b hb).1⟩⟩
  done := by
    intro X hP hw hK hc i pins s σ H E I hf st hg
    subst hP hw hK
    obtain ⟨xs, hq, hx⟩ := hg
    obtain ⟨its, rv, p, hz⟩ := I.list hq
    obtain ⟨f0, f1, f2, f3, f4, f5⟩ := hf it (by simp)
    have hl := rv.length
    exact wpAny_pyNext_list_end (I.ok.hd hc) st p.isList (by simp; omega) fun h' eb => ⟨rfl, I.turned (t' := s.toks) (fun b o hb e => eb b o hb e) f0 f1 f3 f4 f5⟩
  self := fun _ _ _ _ _ st h => wpAny_pyIter_listiter st h
theorem turn_tuple {P : Program} {w : World} {K : PySem.W.Frag} {tg : Expr} (a it : Addr) : Turn P w K tg (Itt K a) [it] it (fun i h => h.IsTupleIter it a i) where
  mem := by simp
  obj := fun i h st b hb => by
    have e : b = it := by simpa using hb
    subst e
    obtain ⟨o, e, c, d⟩ := st
    exact ⟨o, e, fun v z => by rw [d] at z; cases z⟩
  keep := fun i h h' st k => st.at fun o e => k it (by simp) o e
  item := by
    intro X hP hw hK hc i pins s σ H E I hf st hg
    subst hP hw hK
    obtain ⟨xs, x, hq, hx⟩ := hg
    obtain ⟨its, rv, p, hz⟩ := I.tuple hq
    obtain ⟨u, hu, ru⟩ := rv.get hx
    obtain ⟨f0, f1, f2, f3, f4, f5⟩ := hf it (by simp)
    refine wpAny_pyNext_tuple_item st (show s.heap.IsTuple a its.toArray from p) (x := u) (by simpa using hu) fun h' st' sb => ?_
    have I1 : Inv X pins σ H { s with heap := h' } := I.turned (t' := s.toks) (fun b o hb e => (sb.2 b hb).trans e) f0 f1 f3 f4 f5
    obtain ⟨o, e, c, d⟩ := id st'
    exact ⟨u, rfl, go_of (s := { s with heap := h' }) e c d (by decide) ⟨x, H, I1, ru, ⟨rfl, fun ys hy => by rw [I.tuple_inj hy hq]; exact hx⟩, st', fun b hb => (hf b hb).1⟩⟩
  done := by
    intro X hP hw hK hc i pins s σ H E I hf st hg
    subst hP hw hK
    obtain ⟨xs, hq, hx⟩ := hg
    obtain ⟨its, rv, p, hz⟩ := I.tuple hq
    obtain ⟨f0, f1, f2, f3, f4, f5⟩ := hf it (by simp)
    have hl := rv.length
    exact wpAny_pyNext_tuple_end (I.ok.hd hc) st (show s.heap.IsTuple a its.toArray from p) (by simp; omega) fun h' eb => ⟨rfl, I.turned (t' := s.toks) (fun b o hb e => eb b o hb e) f0 f1 f3 f4 f5⟩
  self := fun _ _ _ _ _ st h => wpAny_pyIter_tupleiter st h
theorem turn_range {P : Program} {w : World} {K : PySem.W.Frag} {tg : Expr} (it : Addr) (lo : Int) (n : Nat) : Turn P w K tg (Itr lo n) [it] it (fun i h => IsRangeIter h it (lo + (i : Nat) * 1) ((n : Int) - (i : Nat)) 1) where
  mem := by simp
  obj := fun i h st b hb => by
    have e : b = it := by simpa using hb
    subst e
    exact ⟨_, st, fun v z => by
      have z' : Data.fields _ = Data.cell v := z
      cases z'⟩
  keep := fun i h h' st k => k it (by simp) _ st
  item := by
    intro X hP hw hK hc i pins s σ H E I hf st hg
    subst hP hw hK
    obtain ⟨f0, f1, f2, f3, f4, f5⟩ := hf it (by simp)
    have W := Walks.range (prog := X.prog) (w := X.w) (I.ok.hd hc) it lo 1 n
    refine W.item i s _ _ hg st fun v h' tk hv st' kk => ?_
    obtain ⟨t, rfl⟩ := hv
    have I1 : Inv X pins σ H { s with heap := h', toks := tk } := I.turned (fun b o hb e => kk b o (by simpa using hb) e) f0 f1 f3 f4 f5
    refine ⟨_, rfl, go_of (s := { s with heap := h', toks := tk }) (n := "range_iterator") st' rfl rfl (by decide) ⟨.int (lo + i), H, I1, ⟨t, ?_⟩, ⟨rfl, rfl⟩, st', fun b hb => (hf b hb).1⟩⟩
    rw [Int.mul_one]
  done := by
    intro X hP hw hK hc i pins s σ H E I hf st hg
    subst hP hw hK
    obtain ⟨f0, f1, f2, f3, f4, f5⟩ := hf it (by simp)
    exact wpAny_pyNext_range_end (I.ok.hd hc) st (by have : n ≤ i := hg; omega) fun h' eb => ⟨rfl, I.turned (t' := s.toks) (fun b o hb e => eb b o hb e) f0 f1 f3 f4 f5⟩
  self := fun _ _ _ _ _ st h => wpAny_pyIter_rangeiter st h
end L2

namespace L2
open PySem PySem.Spec PyProof.Rows
section
variable {X : Cx} {tg : Expr}
def iList (K : PySem.W.Frag) (tl : TE) : TI := fun σ H R => tl σ H fun x H1 => ∃ a, x = .ref a ∧ (∃ xs, SqL K H1 a xs) ∧ R (Itl K a) H1
def iTup (K : PySem.W.Frag) (tl : TE) : TI := fun σ H R => tl σ H fun x H1 => ∃ a, x = .ref a ∧ (∃ xs, SqT K H1 a xs) ∧ R (Itt K a) H1
theorem pi_list {l : Expr} {tl : TE} (hl : PE X l tl) : PI X tg l (iList X.K tl) := by
  intro pins s σ H R I h
  refine thn (hl pins s σ H _ I h) fun v s1 ⟨x, H1, I1, r1, q1⟩ => ?_
  obtain ⟨a, e, ⟨xs, hq⟩, q⟩ := q1
  subst e
  cases r1
  obtain ⟨its, rv, p, hz⟩ := I1.list hq
  refine wpAny_pyIter_list p.isList ?_
  refine ⟨s1.heap.objs.size, [s1.heap.objs.size], _, _, H1, rfl, I1.kept (t' := s1.toks) fun b o e => Heap.get?_push_of_some _ e, turn_list a _, ⟨_, Heap.get?_push_size _ rfl, rfl, rfl⟩, fun b hb => ?_, q⟩
  have e : b = s1.heap.objs.size := by simpa using hb
  subst e
  exact I1.fpOk (Nat.le_refl _) (I1.hok.fresh (Nat.le_refl _))
theorem pi_tup {l : Expr} {tl : TE} (hl : PE X l tl) : PI X tg l (iTup X.K tl) := by
  intro pins s σ H R I h
  refine thn (hl pins s σ H _ I h) fun v s1 ⟨x, H1, I1, r1, q1⟩ => ?_
  obtain ⟨a, e, ⟨xs, hq⟩, q⟩ := q1
  subst e
  cases r1
  obtain ⟨its, rv, p, hz⟩ := I1.tuple hq
  refine wpAny_pyIter_tuple (show s1.heap.IsTuple a its.toArray from p) ?_
  refine ⟨s1.heap.objs.size, [s1.heap.objs.size], _, _, H1, rfl, I1.kept (t' := s1.toks) fun b o e => Heap.get?_push_of_some _ e, turn_tuple a _, ⟨_, Heap.get?_push_size _ rfl, rfl, rfl⟩, fun b hb => ?_, q⟩
  have e : b = s1.heap.objs.size := by simpa using hb
  subst e
  exact I1.fpOk (Nat.le_refl _) (I1.hok.fresh (Nat.le_refl _))
/-- a range object just made, walked -/
theorem range_it {pins : List (Addr × Obj)} {σ : St} {H : Hp} {s : Shared} {R : It → Hp → Prop} {E : Value → Shared → Prop} {lo hi : Int} {t u v : Tok} {tk : Nat} (I : Inv X pins σ H s) (h1 : -(2 ^ 62) ≤ lo) (h2 : lo < 2 ^ 62) (h3 : -(2 ^ 62) ≤ hi) (h4 : hi < 2 ^ 62)
    (q : R (Itr lo (hi - lo).toNat) H) : wpAny (model X.prog X.w) X.A (pyIter (.ref s.heap.objs.size)) (PIE X pins σ tg R) E { s with heap := s.heap.push { cls := .type "range", data := .fields #[.int lo t, .int hi u, .int 1 v] }, toks := tk } := by
  refine wpAny_pyIter_range (IsRange.new ..) (small_one h1 h2 h3 h4) ?_
  have I1 : Inv X pins σ H { s with heap := s.heap.push { cls := .type "range", data := .fields #[.int lo t, .int hi u, .int 1 v] }, toks := tk } := I.kept fun b o e => Heap.get?_push_of_some _ e
  refine ⟨(s.heap.push { cls := .type "range", data := .fields #[.int lo t, .int hi u, .int 1 v] }).objs.size, [(s.heap.push { cls := .type "range", data := .fields #[.int lo t, .int hi u, .int 1 v] }).objs.size], _, _, H, rfl,
    I1.kept (t' := tk) fun b o e => Heap.get?_push_of_some _ e, turn_range _ lo (hi - lo).toNat, ?_, fun b hb => ?_, q⟩
  · have e1 : lo + ((0 : Nat) : Int) * 1 = lo := by simp
    have e2 : (((hi - lo).toNat : Nat) : Int) - ((0 : Nat) : Int) = Builtin.Range.rangeSize lo hi 1 := by rw [rangeSize_one]; split <;> omega
    show IsRangeIter _ _ (lo + ((0 : Nat) : Int) * 1) ((((hi - lo).toNat : Nat) : Int) - ((0 : Nat) : Int)) 1
    rw [e1, e2]
    exact Heap.get?_push_size _ rfl
  · have e : b = (s.heap.push { cls := .type "range", data := .fields #[.int lo t, .int hi u, .int 1 v] }).objs.size := by simpa using hb
    subst e
    exact I1.fpOk (Nat.le_refl _) (I1.hok.fresh (Nat.le_refl _))
def iRng1 (ta : TA) : TI := fun σ H R => ta σ H fun vs H1 => ∃ j : Int, vs = [.int j] ∧ -(2 ^ 62) ≤ j ∧ j < 2 ^ 62 ∧ R (Itr 0 j.toNat) H1
theorem pi_range1 {a : Expr} {ta : TA} {p pos : Pos} (hg : Gl X "range") (hm : X.mg "range" = none) (ha : PA X [a] ta) (hs : starEach [a] X.env = [(false, eval a X.env)] := by rfl) : PI X tg (.Call (.Name "range" p) [a] [] pos) (iRng1 ta) := by
  intro pins s σ H R I h
  refine Call_ (ld_blt I hg hm boot_range (PyProof.Rows.callWith_type1 (thn (ha pos pins s σ H _ I h) fun us s1 ⟨vs, H1, I1, r1, q1⟩ => ?_) hs rfl))
  obtain ⟨j, e, q1, q2, q⟩ := q1
  subst e
  cases r1 with
  | cons r rr =>
    cases rr
    obtain ⟨t, rfl⟩ := r
    exact call_range_1 (range_it I1 (by omega) (by omega) q1 q2 (by simpa using q))
/-! ### for -/
/-- W: the invariant by the turn and a measure; N: what the body is to reach -/
def tFor (wi : TI) (g : TG) (tb : TS) : TS := fun D σ H => wi σ H fun J H1 => ∃ W : Nat → Nat → St → Hp → Prop, (∃ m, W 0 m σ H1) ∧ ∀ i m σ H, W i m σ H →
  (J.stop i H ∧ D.nx σ H) ∨ (J.go i H ∧ ∃ N : St → Hp → Prop, (∀ σ' H', N σ' H' → ∃ m', m' < m ∧ W (i + 1) m' σ' H') ∧ ∀ x H', J.yld i H x H' → g x σ H' fun σ2 H2 => tb { D with nx := N, ct := N, bk := D.nx } σ2 H2)
/-- the records at fp as they stand -/
def pinsAt (fp : List Addr) (h : Heap) : List (Addr × Obj) := fp.filterMap fun b => (h.get? b).map fun o => (b, o)
theorem mem_pinsAt {fp : List Addr} {h : Heap} {b : Addr} {o : Obj} (hb : b ∈ fp) (e : h.get? b = some o) : (b, o) ∈ pinsAt fp h := List.mem_filterMap.mpr ⟨b, hb, by rw [e]; rfl⟩
theorem of_pinsAt {fp : List Addr} {h : Heap} {p : Addr × Obj} (hp : p ∈ pinsAt fp h) : p.1 ∈ fp ∧ h.get? p.1 = some p.2 := by
  obtain ⟨b, hb, e⟩ := List.mem_filterMap.mp hp
  cases q : h.get? b with
  | none => rw [q] at e; cases e
  | some o =>
    rw [q] at e
    have e' : (b, o) = p := Option.some.inj e
    subst e'
    exact ⟨hb, q⟩
theorem Inv.pinned {pins : List (Addr × Obj)} {σ : St} {H : Hp} {s : Shared} {fp : List Addr} (I : Inv X pins σ H s) (hf : ∀ b ∈ fp, FpOk X pins H b) (ho : ∀ b ∈ fp, ∃ o, s.heap.get? b = some o ∧ ∀ v, o.data ≠ .cell v) : Inv X (pins ++ pinsAt fp s.heap) σ H s :=
  I.pins_of fun p hp => (List.mem_append.mp hp).elim (fun z => I.pin p (List.mem_append_right _ z)) fun z => by
    obtain ⟨hb, e⟩ := of_pinsAt z
    obtain ⟨f0, f1, f2, _⟩ := hf p.1 hb
    obtain ⟨o, e', d⟩ := ho p.1 hb
    rw [e] at e'; cases e'
    exact ⟨e, f0, f1, f2, d⟩
theorem Inv.unpinned {pins pl : List (Addr × Obj)} {σ : St} {H : Hp} {s : Shared} (I : Inv X (pins ++ pl) σ H s) : Inv X pins σ H s := I.pins_of fun p hp => I.pin p (List.mem_append_right _ (List.mem_append_left _ hp))
theorem ps_for {iter : Expr} {body : List Stmt} {wi : TI} {g : TG} {tb : TS} {pos : Pos} (hp : PassesOwn (model X.prog X.w) X.A X.env X.xe) (hc : X.calm = true) (hi : PI X tg iter wi) (hg : PG X tg g) (hb : PSs X body tb)
    (hs : ∀ x, foldedSetIterable iter X.env x = pure x := by intro _; rfl) : PS X (.For tg iter body [] pos) (tFor wi g tb) := by
  intro pins s σ H D I h
  refine wpAny_For (thn (hi pins s σ H _ I h) fun v s1 h1 => thn h1 fun itv s2 h2 => ?_) hs
  obtain ⟨it, fp, tn, J, H2, e, I2, T, st2, f2, W, ⟨m0, w0⟩, turn⟩ := h2
  subst e
  -- what stays true of the iterator's objects through the loop
  have stat : ∀ {H' : Hp}, (∀ b ∈ fp, H' b = none) → ∀ b ∈ fp, FpOk X pins H' b := fun hn b hb => ⟨hn b hb, (f2 b hb).2⟩
  refine codeAny_forLoop_any (fun n s' => ∃ i σ' H', Inv X pins σ' H' s' ∧ tn i s'.heap ∧ (∀ b ∈ fp, H' b = none) ∧ W i n σ' H') ?_ m0 ⟨0, σ, H2, I2, st2, fun b hb => (f2 b hb).1, w0⟩
  rintro n s3 ⟨i, σ3, H3, I3, st3, fr3, w3⟩
  rcases turn i n σ3 H3 w3 with ⟨stop, qn⟩ | ⟨go, N, hN, step⟩
  · refine wpAny_passesOwn hp (thn (T.done X rfl rfl rfl hc i pins s3 σ3 H3 X.xe I3 (stat fr3) st3 stop) fun r s4 ⟨hr, I4⟩ => ?_)
    subst hr
    exact wpAny_execs_nil ⟨σ3, H3, I4, qn⟩
  · refine wpAny_passesOwn hp (thn (T.item X rfl rfl rfl hc i pins s3 σ3 H3 X.xe I3 (stat fr3) st3 go) fun r s4 ⟨u, hr, h4⟩ => ?_)
    subst hr
    refine wpAny_passesOwn hp (thn h4 fun _ s5 ⟨x, H5, I5, r5, y5, st5, fr5⟩ => ?_)
    have I5' := I5.pinned (stat fr5) (T.obj _ _ st5)
    refine wpAny_passesOwn hp (thn (hg _ s5 σ3 H5 x u _ I5' r5 (step x H5 y5)) fun _ s6 ⟨σ6, H6, I6, q6⟩ => ?_)
    refine wpAny_passesOwn hp (thn (hb _ s6 σ6 H6 _ I6 q6) fun f s7 q7 => ?_)
    have again : ∀ {σ7 : St} {H7 : Hp}, Inv X (pins ++ pinsAt fp s5.heap) σ7 H7 s7 → N σ7 H7 → ∃ m, m < n ∧ ∃ i σ' H', Inv X pins σ' H' s7 ∧ tn i s7.heap ∧ (∀ b ∈ fp, H' b = none) ∧ W i m σ' H' := fun {σ7 H7} I7 n7 => by
      obtain ⟨m', hm, w7⟩ := hN σ7 H7 n7
      refine ⟨m', hm, i + 1, σ7, H7, I7.unpinned, T.keep _ _ _ st5 fun b hb o e => (I7.pin (b, o) (List.mem_append_right _ (List.mem_append_right _ (mem_pinsAt hb e)))).1, fun b hb => ?_, w7⟩
      obtain ⟨o, e, d⟩ := T.obj _ _ st5 b hb
      exact (I7.pin (b, o) (List.mem_append_right _ (List.mem_append_right _ (mem_pinsAt hb e)))).2.1
    cases f with
    | next => obtain ⟨σ7, H7, I7, n7⟩ := q7; exact again I7 n7
    | cont => obtain ⟨σ7, H7, I7, n7⟩ := q7; exact again I7 n7
    | brk => obtain ⟨σ7, H7, I7, q7⟩ := q7; exact ⟨σ7, H7, I7.unpinned, q7⟩
    | ret v => obtain ⟨x7, σ7, H7, I7, r7, q7⟩ := q7; exact ⟨x7, σ7, H7, I7.unpinned, r7, q7⟩
end

/-! ### the forms one uses -/
/-- over a list that the body leaves as it is -/
theorem for_list {K : PySem.W.Frag} {a : Addr} {xs : List V} {g : TG} {tb : TS} {D : Ends} {σ : St} {H : Hp} (Pv : Nat → St → Hp → Prop) (h0 : Pv 0 σ H) (hl : ∀ i σ H, i ≤ xs.length → Pv i σ H → SqL K H a xs)
    (hs : ∀ i x σ H, xs[i]? = some x → Pv i σ H → g x σ H fun σ2 H2 => tb { D with nx := Pv (i + 1), ct := Pv (i + 1), bk := D.nx } σ2 H2) (hd : ∀ σ H, Pv xs.length σ H → D.nx σ H) :
    ∃ W : Nat → Nat → St → Hp → Prop, (∃ m, W 0 m σ H) ∧ ∀ i m σ H, W i m σ H →
      ((Itl K a).stop i H ∧ D.nx σ H) ∨ ((Itl K a).go i H ∧ ∃ N : St → Hp → Prop, (∀ σ' H', N σ' H' → ∃ m', m' < m ∧ W (i + 1) m' σ' H') ∧ ∀ x H', (Itl K a).yld i H x H' → g x σ H' fun σ2 H2 => tb { D with nx := N, ct := N, bk := D.nx } σ2 H2) := by
  refine ⟨fun i m σ H => m = xs.length - i ∧ i ≤ xs.length ∧ Pv i σ H, ⟨xs.length, by simp, Nat.zero_le _, h0⟩, ?_⟩
  rintro i m σ H ⟨rfl, hi, p⟩
  have q := hl i σ H hi p
  by_cases hlt : i < xs.length
  · refine .inr ⟨⟨xs, xs[i], q, by simp [hlt]⟩, Pv (i + 1), fun σ' H' p' => ⟨xs.length - (i + 1), by omega, rfl, hlt, p'⟩, fun x H' y => ?_⟩
    obtain ⟨e, y⟩ := y
    subst e
    exact hs i x σ _ (y xs q) p
  · have e : i = xs.length := by omega
    subst e
    exact .inl ⟨⟨xs, q, Nat.le_refl _⟩, hd σ H p⟩
theorem for_tup {K : PySem.W.Frag} {a : Addr} {xs : List V} {g : TG} {tb : TS} {D : Ends} {σ : St} {H : Hp} (Pv : Nat → St → Hp → Prop) (h0 : Pv 0 σ H) (hl : ∀ i σ H, i ≤ xs.length → Pv i σ H → SqT K H a xs)
    (hs : ∀ i x σ H, xs[i]? = some x → Pv i σ H → g x σ H fun σ2 H2 => tb { D with nx := Pv (i + 1), ct := Pv (i + 1), bk := D.nx } σ2 H2) (hd : ∀ σ H, Pv xs.length σ H → D.nx σ H) :
    ∃ W : Nat → Nat → St → Hp → Prop, (∃ m, W 0 m σ H) ∧ ∀ i m σ H, W i m σ H →
      ((Itt K a).stop i H ∧ D.nx σ H) ∨ ((Itt K a).go i H ∧ ∃ N : St → Hp → Prop, (∀ σ' H', N σ' H' → ∃ m', m' < m ∧ W (i + 1) m' σ' H') ∧ ∀ x H', (Itt K a).yld i H x H' → g x σ H' fun σ2 H2 => tb { D with nx := N, ct := N, bk := D.nx } σ2 H2) := by
  refine ⟨fun i m σ H => m = xs.length - i ∧ i ≤ xs.length ∧ Pv i σ H, ⟨xs.length, by simp, Nat.zero_le _, h0⟩, ?_⟩
  rintro i m σ H ⟨rfl, hi, p⟩
  have q := hl i σ H hi p
  by_cases hlt : i < xs.length
  · refine .inr ⟨⟨xs, xs[i], q, by simp [hlt]⟩, Pv (i + 1), fun σ' H' p' => ⟨xs.length - (i + 1), by omega, rfl, hlt, p'⟩, fun x H' y => ?_⟩
    obtain ⟨e, y⟩ := y
    subst e
    exact hs i x σ _ (y xs q) p
  · have e : i = xs.length := by omega
    subst e
    exact .inl ⟨⟨xs, q, Nat.le_refl _⟩, hd σ H p⟩
theorem for_range {lo : Int} {n : Nat} {g : TG} {tb : TS} {D : Ends} {σ : St} {H : Hp} (Pv : Nat → St → Hp → Prop) (h0 : Pv 0 σ H)
    (hs : ∀ i σ H, i < n → Pv i σ H → g (.int (lo + i)) σ H fun σ2 H2 => tb { D with nx := Pv (i + 1), ct := Pv (i + 1), bk := D.nx } σ2 H2) (hd : ∀ σ H, Pv n σ H → D.nx σ H) :
    ∃ W : Nat → Nat → St → Hp → Prop, (∃ m, W 0 m σ H) ∧ ∀ i m σ H, W i m σ H →
      ((Itr lo n).stop i H ∧ D.nx σ H) ∨ ((Itr lo n).go i H ∧ ∃ N : St → Hp → Prop, (∀ σ' H', N σ' H' → ∃ m', m' < m ∧ W (i + 1) m' σ' H') ∧ ∀ x H', (Itr lo n).yld i H x H' → g x σ H' fun σ2 H2 => tb { D with nx := N, ct := N, bk := D.nx } σ2 H2) := by
  refine ⟨fun i m σ H => m = n - i ∧ i ≤ n ∧ Pv i σ H, ⟨n, by simp, Nat.zero_le _, h0⟩, ?_⟩
  rintro i m σ H ⟨rfl, hi, p⟩
  by_cases hlt : i < n
  · refine .inr ⟨hlt, Pv (i + 1), fun σ' H' p' => ⟨n - (i + 1), by omega, rfl, hlt, p'⟩, fun x H' y => ?_⟩
    obtain ⟨e, y⟩ := y
    subst e y
    exact hs i σ _ hlt p
  · have e : i = n := by omega
    subst e
    exact .inl ⟨Nat.le_refl _, hd σ H p⟩
end L2

namespace L2
open PySem PySem.Spec PyProof.Rows

abbrev R2 := V → V → Hp → VK → Prop
/-- a two-place operation on values: f is binaryOp op, inplaceOp op or compareOp op -/
def OpR (X : Cx) (f : Value → Value → Sem Value) (r : R2) : Prop :=
  ∀ (pins : List (Addr × Obj)) (s : Shared) (σ : St) (H : Hp) (x y : V) (v u : Value) (Q : VK), Inv X pins σ H s → RelV x v → RelV y u → r x y H Q →
    wpAny (model X.prog X.w) X.A (f v u) (EP X pins σ Q) X.xe s
/-- a one-place operation -/
def UnR (X : Cx) (f : Value → Sem Value) (r : V → Hp → VK → Prop) : Prop :=
  ∀ (pins : List (Addr × Obj)) (s : Shared) (σ : St) (H : Hp) (x : V) (v : Value) (Q : VK), Inv X pins σ H s → RelV x v → r x H Q →
    wpAny (model X.prog X.w) X.A (f v) (EP X pins σ Q) X.xe s
/-- a call of a value that is known (a builtin, a type) with values -/
def CallR (X : Cx) (f : Value) (r : List V → Hp → VK → Prop) : Prop :=
  ∀ (pins : List (Addr × Obj)) (s : Shared) (σ : St) (H : Hp) (xs : List V) (us : List Value) (Q : VK), Inv X pins σ H s → Vals xs us → r xs H Q →
    wpAny (model X.prog X.w) X.A (call f us) (EP X pins σ Q) X.xe s
/-- a value's truth -/
def TruR (X : Cx) (r : V → Hp → (Bool → Hp → Prop) → Prop) : Prop :=
  ∀ (pins : List (Addr × Obj)) (s : Shared) (σ : St) (H : Hp) (x : V) (v : Value) (Q : Bool → Hp → Prop), Inv X pins σ H s → RelV x v → r x H Q →
    wpAny (model X.prog X.w) X.A (truthy v) (TP X pins σ Q) X.xe s

def tOp (r : R2) (ta tb : TE) : TE := fun σ H Q => ta σ H fun x H1 => tb σ H1 fun y H2 => r x y H2 Q
def tUn (r : V → Hp → VK → Prop) (ta : TE) : TE := fun σ H Q => ta σ H fun x H1 => r x H1 Q
/-- ints in, under C, and a value out -/
def rI (C : Int → Int → Prop) (g : Int → Int → V) : R2 := fun x y H Q => ∃ i j, x = .int i ∧ y = .int j ∧ C i j ∧ Q (g i j) H
def rI0 (g : Int → Int → V) : R2 := fun x y H Q => ∃ i j, x = .int i ∧ y = .int j ∧ Q (g i j) H
def rU (g : Int → V) : V → Hp → VK → Prop := fun x H Q => ∃ i, x = .int i ∧ Q (g i) H

section
variable {X : Cx} {a b c : Expr} {ta tb tc : TE} {pos : Pos}

theorem binT (ha : PE X a ta) (hb : PE X b tb) {pins : List (Addr × Obj)} {s : Shared} {σ : St} {H : Hp} {R : V → V → Hp → Prop} (I : Inv X pins σ H s)
    (h : ta σ H fun x H1 => tb σ H1 fun y H2 => R x y H2) {Q : Value → Shared → Prop} {f : Value → Value → Sem Value}
    (hf : ∀ v u s2 x y H2, Inv X pins σ H2 s2 → RelV x v → RelV y u → R x y H2 → wpAny (model X.prog X.w) X.A (f v u) Q X.xe s2) :
    wpAny (model X.prog X.w) X.A (eval a X.env) (fun v s₁ => wpAny (model X.prog X.w) X.A (eval b X.env) (fun u s₂ => wpAny (model X.prog X.w) X.A (f v u) Q X.xe s₂) X.xe s₁) X.xe s := by
  refine thn (ha pins s σ H _ I h) fun v s1 ⟨x, H1, I1, r1, q1⟩ => ?_
  refine thn (hb pins s1 σ H1 _ I1 q1) fun u s2 ⟨y, H2, I2, r2, q2⟩ => ?_
  exact hf v u s2 x y H2 I2 r1 r2 q2

theorem pe_op {op : Operator} {r : R2} (ho : OpR X (binaryOp op) r) (ha : PE X a ta) (hb : PE X b tb) : PE X (.BinOp a op b pos) (tOp r ta tb) := by
  intro pins s σ H Q I h
  exact wpAny_BinOp (binT ha hb I h fun v u s2 x y H2 I2 rx ry q => ho pins s2 σ H2 x y v u Q I2 rx ry q)
theorem pe_un {op : UnaryOp} {r : V → Hp → VK → Prop} (ho : UnR X (unaryOp op) r) (ha : PE X a ta) : PE X (.UnaryOp op a pos) (tUn r ta) := by
  intro pins s σ H Q I h
  exact UnaryOp_ (thn (ha pins s σ H _ I h) fun v s1 ⟨x, H1, I1, r1, q1⟩ => ho pins s1 σ H1 x v Q I1 r1 q1)
/-! ### ints -/
theorem opI {f : Value → Value → Sem Value} {C : Int → Int → Prop} {g : Int → Int → Int}
    (rule : ∀ (i j : Int) (t u : Tok) (s : Shared) (Q : Value → Shared → Prop) (E : Value → Shared → Prop), C i j → Q (.int (g i j) s.toks) { s with toks := s.toks + 1 } → wpAny (model X.prog X.w) X.A (f (.int i t) (.int j u)) Q E s) :
    OpR X f (rI C fun i j => .int (g i j)) := by
  intro pins s σ H x y v u Q I rx ry h
  obtain ⟨i, j, rfl, rfl, hc, q⟩ := h
  obtain ⟨t, rfl⟩ := rx
  obtain ⟨t', rfl⟩ := ry
  exact rule i j t t' s _ _ hc ⟨.int (g i j), H, I.tok _, ⟨_, rfl⟩, q⟩
theorem opI0 {f : Value → Value → Sem Value} {g : Int → Int → Int}
    (rule : ∀ (i j : Int) (t u : Tok) (s : Shared) (Q : Value → Shared → Prop) (E : Value → Shared → Prop), Q (.int (g i j) s.toks) { s with toks := s.toks + 1 } → wpAny (model X.prog X.w) X.A (f (.int i t) (.int j u)) Q E s) :
    OpR X f (rI0 fun i j => .int (g i j)) := by
  intro pins s σ H x y v u Q I rx ry h
  obtain ⟨i, j, rfl, rfl, q⟩ := h
  obtain ⟨t, rfl⟩ := rx
  obtain ⟨t', rfl⟩ := ry
  exact rule i j t t' s _ _ ⟨.int (g i j), H, I.tok _, ⟨_, rfl⟩, q⟩
theorem opB0 {f : Value → Value → Sem Value} {g : Int → Int → Bool}
    (rule : ∀ (i j : Int) (t u : Tok) (s : Shared) (Q : Value → Shared → Prop) (E : Value → Shared → Prop), Q (.bool (g i j)) s → wpAny (model X.prog X.w) X.A (f (.int i t) (.int j u)) Q E s) :
    OpR X f (rI0 fun i j => .bl (g i j)) := by
  intro pins s σ H x y v u Q I rx ry h
  obtain ⟨i, j, rfl, rfl, q⟩ := h
  obtain ⟨t, rfl⟩ := rx
  obtain ⟨t', rfl⟩ := ry
  exact rule i j t t' s _ _ ⟨.bl (g i j), H, I, rfl, q⟩

def CDiv (i j : Int) : Prop := 0 < j ∧ j < 1073741824
def CPow (i j : Int) : Prop := 0 ≤ j ∧ j ≤ 1000000 ∧ i.natAbs < 2 ^ 64
def CMul (i j : Int) : Prop := (-(2 ^ 64) < i ∧ i < 2 ^ 64) ∨ (-(2 ^ 64) < j ∧ j < 2 ^ 64)
theorem CMul.ok {i j : Int} (h : CMul i j) : IntMulOk i j := by
  rcases h with ⟨h1, h2⟩ | ⟨h1, h2⟩
  · exact .of_left (intBits_le_64 h1 h2)
  · exact .of_right (intBits_le_64 h1 h2)
theorem op_add : OpR X (binaryOp .Add) (rI0 fun i j => .int (i + j)) := opI0 fun _ _ _ _ _ _ _ q => add_int q
theorem op_sub : OpR X (binaryOp .Sub) (rI0 fun i j => .int (i - j)) := opI0 fun _ _ _ _ _ _ _ q => sub_int q
theorem op_mul : OpR X (binaryOp .Mult) (rI CMul fun i j => .int (i * j)) := opI fun _ _ _ _ _ _ _ hc q => mul_int q hc.ok
/-- // by a positive divisor -/
theorem op_fdiv : OpR X (binaryOp .FloorDiv) (rI CDiv fun i j => .int (i / j)) := opI fun i j _ _ _ _ _ hc q => by
  have h1 : (0 : Int) < j := hc.1
  have h2 : j < 1073741824 := hc.2
  exact floordiv_int (by omega) (by rw [Int.fdiv_eq_ediv_of_nonneg i (by omega)]; exact q) (.inl (PyProof.noPylong_small (by omega)))
/-- % by a positive divisor of any size -/
theorem op_mod : OpR X (binaryOp .Mod) (rI (fun _ j => 0 < j) fun i j => .int (i % j)) := opI fun i j _ _ _ _ _ hc q => by
  have h1 : (0 : Int) < j := hc
  exact mod_int' (by omega) (by rw [Int.fmod_eq_emod_of_nonneg i (by omega)]; exact q)
theorem op_pow : OpR X (binaryOp .Pow) (rI CPow fun i j => .int (i ^ j.toNat)) := opI fun _ _ _ _ _ _ _ hc q => pow_int_small hc.1 hc.2.1 hc.2.2 q
theorem op_and : OpR X (binaryOp .BitAnd) (rI0 fun i j => .int (Builtin.bitAnd i j)) := opI0 fun _ _ _ _ _ _ _ q => and_int q
theorem iop_fdiv : OpR X (inplaceOp .FloorDiv) (rI CDiv fun i j => .int (i / j)) := opI fun i j _ _ _ _ _ hc q => by
  have h1 : (0 : Int) < j := hc.1
  have h2 : j < 1073741824 := hc.2
  exact ifloordiv_int (by omega) (by rw [Int.fdiv_eq_ediv_of_nonneg i (by omega)]; exact q) (.inl (PyProof.noPylong_small (by omega)))
theorem unI {f : Value → Sem Value} {g : Int → Int}
    (rule : ∀ (i : Int) (t : Tok) (s : Shared) (Q : Value → Shared → Prop) (E : Value → Shared → Prop), Q (.int (g i) s.toks) { s with toks := s.toks + 1 } → wpAny (model X.prog X.w) X.A (f (.int i t)) Q E s) :
    UnR X f (rU fun i => .int (g i)) := by
  intro pins s σ H x v Q I rx h
  obtain ⟨i, rfl, q⟩ := h
  obtain ⟨t, rfl⟩ := rx
  exact rule i t s _ _ ⟨.int (g i), H, I.tok _, ⟨_, rfl⟩, q⟩
theorem un_neg : UnR X (unaryOp .USub) (rU fun i => .int (-i)) := unI fun _ _ _ _ _ q => neg_int q
/-! ### bools among ints: n += (a < b) -/
end

/-! ### comparisons -/
/-- the scalars that == tells apart as data does -/
def scal : V → V → Bool
  | .non, .non => true | .non, .int _ => true | .int _, .non => true | .non, .bl _ => true | .bl _, .non => true | .non, .str _ => true | .str _, .non => true
  | .int _, .int _ => true | .bl _, .bl _ => true | .str _, .str _ => true | .byt _, .byt _ => true
  | .int _, .str _ => true | .str _, .int _ => true | .bl _, .str _ => true | .str _, .bl _ => true
  | _, _ => false
def rEq : R2 := fun x y H Q => scal x y = true ∧ Q (.bl (decide (x = y))) H
def rNe : R2 := fun x y H Q => scal x y = true ∧ Q (.bl (!decide (x = y))) H

theorem dec_int {i j : Int} : decide (V.int i = V.int j) = (i == j) := by
  rw [Bool.eq_iff_iff]
  simp
theorem dec_bl {i j : Bool} : decide (V.bl i = V.bl j) = (i == j) := by
  rw [Bool.eq_iff_iff]
  simp
theorem dec_str {i j : Str} : decide (V.str i = V.str j) = (i == j) := by
  rw [Bool.eq_iff_iff]
  simp
theorem dec_byt {i j : Array UInt8} : decide (V.byt i = V.byt j) = (i.toList == j.toList) := by
  rw [Bool.eq_iff_iff]
  cases i
  cases j
  simp

section
variable {X : Cx} {a b c : Expr} {ta tb tc : TE} {pos : Pos}
theorem fin_bl {pins : List (Addr × Obj)} {σ : St} {H : Hp} {s : Shared} {Q : VK} {k k' : Bool} (I : Inv X pins σ H s) (q : Q (.bl k) H) (e : k = k') : EP X pins σ Q (.bool k') s := by
  subst e
  exact ⟨.bl k, H, I, rfl, q⟩
theorem op_eq : OpR X (compareOp .Eq) rEq := by
  intro pins s σ H x y v u Q I rx ry h
  obtain ⟨hs, q⟩ := h
  cases x with
  | non =>
    cases rx
    cases y with
    | non => cases ry; exact PySem.EqNone.eq_none_none (fin_bl I q (by simp))
    | bl j => cases ry; exact PySem.EqNone.eq_none_bool (fin_bl I q (by simp))
    | int j => obtain ⟨t', rfl⟩ := ry; exact PySem.EqNone.eq_none_int (fin_bl I q (by simp))
    | str j => obtain ⟨t', rfl⟩ := ry; exact PySem.EqNone.eq_none_str (fin_bl I q (by simp))
    | _ => exact absurd (show false = true from hs) Bool.false_ne_true
  | bl i =>
    cases rx
    cases y with
    | non => cases ry; exact PySem.EqNone.eq_bool_none (fin_bl I q (by simp))
    | bl j => cases ry; exact eq_bool (fin_bl I q dec_bl)
    | str j => obtain ⟨t', rfl⟩ := ry; exact PySem.EqMixed.eq_bool_str (fin_bl I q (by simp))
    | _ => exact absurd (show false = true from hs) Bool.false_ne_true
  | int i =>
    obtain ⟨t, rfl⟩ := rx
    cases y with
    | non => cases ry; exact PySem.EqNone.eq_int_none (fin_bl I q (by simp))
    | int j => obtain ⟨t', rfl⟩ := ry; exact eq_int (fin_bl I q dec_int)
    | str j => obtain ⟨t', rfl⟩ := ry; exact PySem.EqMixed.eq_int_str (fin_bl I q (by simp))
    | _ => exact absurd (show false = true from hs) Bool.false_ne_true
  | str i =>
    obtain ⟨t, rfl⟩ := rx
    cases y with
    | non => cases ry; exact PySem.EqNone.eq_str_none (fin_bl I q (by simp))
    | bl j => cases ry; exact PySem.EqMixed.eq_str_bool (fin_bl I q (by simp))
    | int j => obtain ⟨t', rfl⟩ := ry; exact PySem.EqMixed.eq_str_int (fin_bl I q (by simp))
    | str j => obtain ⟨t', rfl⟩ := ry; exact eq_str (fin_bl I q dec_str)
    | _ => exact absurd (show false = true from hs) Bool.false_ne_true
  | byt i =>
    obtain ⟨t, rfl⟩ := rx
    cases y with
    | byt j => obtain ⟨t', rfl⟩ := ry; exact PySem.W.eq_bytes (fin_bl I q dec_byt)
    | _ => exact absurd (show false = true from hs) Bool.false_ne_true
  | _ => cases y <;> exact absurd (show false = true from hs) Bool.false_ne_true
theorem op_ne : OpR X (compareOp .NotEq) rNe := by
  intro pins s σ H x y v u Q I rx ry h
  obtain ⟨hs, q⟩ := h
  cases x with
  | non =>
    cases rx
    cases y with
    | non => cases ry; exact PySem.EqNone.ne_none_none (fin_bl I q (by simp))
    | bl j => cases ry; exact PySem.EqNone.ne_none_bool (fin_bl I q (by simp))
    | int j => obtain ⟨t', rfl⟩ := ry; exact PySem.EqNone.ne_none_int (fin_bl I q (by simp))
    | str j => obtain ⟨t', rfl⟩ := ry; exact PySem.EqNone.ne_none_str (fin_bl I q (by simp))
    | _ => exact absurd (show false = true from hs) Bool.false_ne_true
  | bl i =>
    cases rx
    cases y with
    | non => cases ry; exact PySem.EqNone.ne_bool_none (fin_bl I q (by simp))
    | bl j => cases ry; exact ne_bool (fin_bl I q (congrArg not dec_bl))
    | str j => obtain ⟨t', rfl⟩ := ry; exact PySem.EqMixed.ne_bool_str (fin_bl I q (by simp))
    | _ => exact absurd (show false = true from hs) Bool.false_ne_true
  | int i =>
    obtain ⟨t, rfl⟩ := rx
    cases y with
    | non => cases ry; exact PySem.EqNone.ne_int_none (fin_bl I q (by simp))
    | int j => obtain ⟨t', rfl⟩ := ry; exact ne_int (fin_bl I q (congrArg not dec_int))
    | str j => obtain ⟨t', rfl⟩ := ry; exact PySem.EqMixed.ne_int_str (fin_bl I q (by simp))
    | _ => exact absurd (show false = true from hs) Bool.false_ne_true
  | str i =>
    obtain ⟨t, rfl⟩ := rx
    cases y with
    | non => cases ry; exact PySem.EqNone.ne_str_none (fin_bl I q (by simp))
    | bl j => cases ry; exact PySem.EqMixed.ne_str_bool (fin_bl I q (by simp))
    | int j => obtain ⟨t', rfl⟩ := ry; exact PySem.EqMixed.ne_str_int (fin_bl I q (by simp))
    | str j => obtain ⟨t', rfl⟩ := ry; exact ne_str (fin_bl I q (congrArg not dec_str))
    | _ => exact absurd (show false = true from hs) Bool.false_ne_true
  | byt i =>
    obtain ⟨t, rfl⟩ := rx
    cases y with
    | byt j => obtain ⟨t', rfl⟩ := ry; exact PySem.W.ne_bytes (fin_bl I q (congrArg not dec_byt))
    | _ => exact absurd (show false = true from hs) Bool.false_ne_true
  | _ => cases y <;> exact absurd (show false = true from hs) Bool.false_ne_true

theorem op_lt : OpR X (compareOp .Lt) (rI0 fun i j => .bl (decide (i < j))) := opB0 fun _ _ _ _ _ _ _ q => lt_int q
theorem op_le : OpR X (compareOp .LtE) (rI0 fun i j => .bl (decide (i ≤ j))) := opB0 fun _ _ _ _ _ _ _ q => le_int q
theorem op_gt : OpR X (compareOp .Gt) (rI0 fun i j => .bl (decide (j < i))) := opB0 fun _ _ _ _ _ _ _ q => gt_int q
theorem op_ge : OpR X (compareOp .GtE) (rI0 fun i j => .bl (decide (j ≤ i))) := opB0 fun _ _ _ _ _ _ _ q => ge_int q
theorem nomark (b : Expr) {op : CmpOp} (h : op ≠ .In := by decide) (h2 : op ≠ .NotIn := by decide) : behindInMarks op b = false := by
  have e1 : (op == CmpOp.In) = false := by cases op <;> first | rfl | exact absurd rfl h
  have e2 : (op == CmpOp.NotIn) = false := by cases op <;> first | rfl | exact absurd rfl h2
  cases b <;> simp [behindInMarks, e1, e2]
/-- a comparison as a value; hm: nomark b, or (for in, not in) by with_unfolding_all rfl -/
theorem pe_cmpR {op : CmpOp} {r : R2} (ho : OpR X (compareOp op) r) (ha : PE X a ta) (hb : PE X b tb) (hm : behindInMarks op b = false) : PE X (.Compare a [op] [b] pos) (tOp r ta tb) := by
  intro pins s σ H Q I h
  exact wpAny_Compare1 (binT ha hb I h fun v u s2 x y H2 I2 rx ry q => ho pins s2 σ H2 x y v u Q I2 rx ry q) hm
/-- a reading of a value as a test -/
def tTest (t : TE) : TT := fun σ H Q => t σ H fun x H' => ∃ k, x = .bl k ∧ Q k H'
theorem pt_cmpR {op : CmpOp} {r : R2} (ho : OpR X (compareOp op) r) (ha : PE X a ta) (hb : PE X b tb) (hm : behindInMarks op b = false) : PT X (.Compare a [op] [b] pos) (tTest (tOp r ta tb)) := by
  intro pins s σ H Q I h
  refine wpAny_isTrue_Compare1 (thn (ha pins s σ H _ I h) fun v s1 ⟨x, H1, I1, r1, q1⟩ => thn (hb pins s1 σ H1 _ I1 q1) fun u s2 ⟨y, H2, I2, r2, q2⟩ =>
    thn (ho pins s2 σ H2 x y v u _ I2 r1 r2 q2) fun c s3 ⟨z, H3, I3, r3, k, e, q3⟩ => ?_) hm
  subst e
  cases r3
  exact wpAny_truthy_bool ⟨H3, I3, q3⟩
/-! ### truth -/
/-- a value's truth by the abstract heap -/
def TruV (K : PySem.W.Frag) (x : V) (H : Hp) (k : Bool) : Prop :=
  match x with
  | .non => k = false
  | .bl b => k = b
  | .int i => k = (i != 0)
  | .str y => y.length ≤ sizeLine ∧ k = ((y.length : Int) != 0)
  | .byt y => y.size ≤ sizeLine ∧ k = ((y.size : Int) != 0)
  | .ref p => (∃ xs, SqL K H p xs ∧ k = !xs.isEmpty) ∨ (∃ xs, SqT K H p xs ∧ k = !xs.isEmpty) ∨ ∃ kvs, H p = some (.dK kvs) ∧ k = !kvs.isEmpty
  | _ => False
theorem isEmpty_kv {κ : Type} {kvs : List (κ × V)} {vs : List (κ × Value)} (r : KV kvs vs) : (!vs.isEmpty) = !kvs.isEmpty := by
  cases r <;> rfl
theorem isEmpty_of {xs : List V} {its : List Value} (r : Vals xs its) : (!its.toArray.isEmpty) = !xs.isEmpty := by
  cases r <;> simp
theorem line63 : (sizeLine : Nat) < 2 ^ 63 := by rw [sizeLine_eq]; decide
theorem tru_ok : TruR X (fun x H Q => ∃ k, TruV X.K x H k ∧ Q k H) := by
  intro pins s σ H x v Q I rx h
  obtain ⟨k, e, q⟩ := h
  have hl := line63
  have hs : sizeLine = 16777216 := sizeLine_eq
  cases x with
  | non =>
    cases rx
    have e' : k = false := e
    subst e'
    exact truthy_none ⟨H, I, q⟩
  | bl b =>
    cases rx
    have e' : k = b := e
    subst e'
    exact wpAny_truthy_bool ⟨H, I, q⟩
  | int i =>
    obtain ⟨t, rfl⟩ := rx
    have e' : k = (i != 0) := e
    subst e'
    exact PySem.P.truthy_int ⟨H, I, q⟩
  | str y =>
    obtain ⟨t, rfl⟩ := rx
    obtain ⟨hy, e'⟩ : y.length ≤ sizeLine ∧ k = ((y.length : Int) != 0) := e
    subst e'
    exact PySem.P.truthy_str (by omega) ⟨H, I.tok _, q⟩
  | byt y =>
    obtain ⟨t, rfl⟩ := rx
    obtain ⟨hy, e'⟩ : y.size ≤ sizeLine ∧ k = ((y.size : Int) != 0) := e
    subst e'
    exact PySem.W.truthy_bytes (by omega) ⟨H, I.tok _, q⟩
  | ref p =>
    cases rx
    have e' : (∃ xs, SqL X.K H p xs ∧ k = !xs.isEmpty) ∨ (∃ xs, SqT X.K H p xs ∧ k = !xs.isEmpty) ∨ ∃ kvs, H p = some (.dK kvs) ∧ k = !kvs.isEmpty := e
    rcases e' with ⟨xs, hx, e'⟩ | ⟨xs, hx, e'⟩ | ⟨kvs, hx, e'⟩
    · subst e'
      obtain ⟨its, r, pl, hz⟩ := I.list hx
      have hlen := r.length
      exact wpAny_truthy_list pl.isList (by simp only [List.size_toArray]; omega) ⟨H, I.tok _, by rw [isEmpty_of r]; exact q⟩
    · subst e'
      obtain ⟨its, r, pl, hz⟩ := I.tuple hx
      have hlen := r.length
      exact truthy_tuple pl (by simp only [List.size_toArray]; omega) ⟨H, I.tok _, by rw [isEmpty_of r]; exact q⟩
    · subst e'
      obtain ⟨hz, hS, vs, r, m⟩ : kvs.length ≤ sizeLine ∧ (p == sysModules) = false ∧ ∃ vs, KV kvs vs ∧ s.heap.DictOf (mixKind X.prog X.w) p vs := I.hok p _ hx
      have hlen : kvs.length = vs.length := Paired.length r
      exact wpAny_truthy_dict hS m (by omega) ⟨H, I.tok _, by rw [isEmpty_kv r]; exact q⟩
  | _ => exact (show False from e).elim
/-- any expression whose test is its value's truth (a name, a call, a subscript, a field ..: he by fun _ => rfl) -/
theorem pt_truth (ha : PE X a ta) (he : ∀ whole, isTrue a X.env whole = (do let v ← whole; standAt a.pos; holding [v] (truthy v))) :
    PT X a (fun σ H Q => ta σ H fun x H' => ∃ k, TruV X.K x H' k ∧ Q k H') := by
  intro pins s σ H Q I h
  exact isTrue_plain (thn (ha pins s σ H _ I h) fun v s1 ⟨x, H1, I1, r1, q1⟩ => tru_ok pins s1 σ H1 x v Q I1 r1 q1) (he _)

/-! ### strs and bytes -/
theorem op_add_str : OpR X (binaryOp .Add) (fun x y H Q => ∃ i j, x = .str i ∧ y = .str j ∧ i.length + j.length ≤ sizeLine ∧ Q (.str (i ++ j)) H) := by
  intro pins s σ H x y v u Q I rx ry h
  obtain ⟨i, j, rfl, rfl, hz, q⟩ := h
  obtain ⟨t, rfl⟩ := rx
  obtain ⟨t', rfl⟩ := ry
  exact add_str (fun t' tk => ⟨.str (i ++ j), H, I.tok _, ⟨_, rfl⟩, q⟩) hz
/-! ### scalar builtins, by CallR -/
theorem vals1 {x : V} {us : List Value} (r : Vals [x] us) : ∃ u, us = [u] ∧ RelV x u := by
  cases r with
  | cons r1 r2 => cases r2; exact ⟨_, rfl, r1⟩
theorem vals2 {x y : V} {us : List Value} (r : Vals [x, y] us) : ∃ u w', us = [u, w'] ∧ RelV x u ∧ RelV y w' := by
  cases r with
  | cons r1 r2 =>
    cases r2 with
    | cons r3 r4 => cases r4; exact ⟨_, _, rfl, r1, r3⟩
theorem call_abs : CallR X (.builtin "abs") (fun xs H Q => ∃ i, xs = [.int i] ∧ Q (.int (if i < 0 then -i else i)) H) := by
  intro pins s σ H xs us Q I r h
  obtain ⟨i, rfl, q⟩ := h
  obtain ⟨u, rfl, t, rfl⟩ := vals1 r
  exact call_abs_int fun u tk => ⟨.int (if i < 0 then -i else i), H, I.tok _, ⟨_, rfl⟩, q⟩
theorem call_max2 (hc : X.calm = true) : CallR X (.builtin "max") (fun xs H Q => ∃ i j, xs = [.int i, .int j] ∧ Q (.int (if j > i then j else i)) H) := by
  intro pins s σ H xs us Q I r h
  obtain ⟨i, j, rfl, q⟩ := h
  obtain ⟨u, w', rfl, ⟨t, rfl⟩, ⟨t', rfl⟩⟩ := vals2 r
  refine max_two_ints (I.ok.hd hc) fun h' tk k => ⟨_, H, I.kept k, ?_, q⟩
  by_cases hj : j > i
  · rw [if_pos hj, if_pos hj]; exact ⟨_, rfl⟩
  · rw [if_neg hj, if_neg hj]; exact ⟨_, rfl⟩
theorem call_min2 (hc : X.calm = true) : CallR X (.builtin "min") (fun xs H Q => ∃ i j, xs = [.int i, .int j] ∧ Q (.int (if j < i then j else i)) H) := by
  intro pins s σ H xs us Q I r h
  obtain ⟨i, j, rfl, q⟩ := h
  obtain ⟨u, w', rfl, ⟨t, rfl⟩, ⟨t', rfl⟩⟩ := vals2 r
  refine min_two_ints (I.ok.hd hc) fun h' tk k => ⟨_, H, I.kept k, ?_, q⟩
  by_cases hj : j < i
  · rw [if_pos hj, if_pos hj]; exact ⟨_, rfl⟩
  · rw [if_neg hj, if_neg hj]; exact ⟨_, rfl⟩
end
end L2

namespace L2
open PySem PySem.Spec PyProof.Rows

/-! ### an instance, its attributes a map -/
structure ObjM (h : Heap) (x dx C : Addr) (mA : Str → Option Value) : Prop where
  obj : h.get? x = some (PySem.W.instObj C dx)
  ns : h.Ns1 dx mA
  ne : dx ≠ x

theorem lookIn_ns {h : Heap} {dx : Addr} {mA : Str → Option Value} (n : h.Ns1 dx mA) : ∃ od, h.get? dx = some od ∧ ∀ name, PySem.W.lookIn name od = some (mA name) := by
  obtain ⟨o, es, ep, ho, hd, hk, _, hm⟩ := n
  refine ⟨o, ho, fun name => ?_⟩
  have e := hm name
  unfold nsFind findBy at e
  rw [← Array.find?_toList] at e
  unfold PySem.W.lookIn
  rw [hd]
  dsimp only
  split
  · rename_i y q
    rw [q] at e
    exact congrArg some e
  · rename_i q
    rw [q] at e
    have a : es.toList.any (·.refKey) = false := by
      rw [List.any_eq_false]
      intro y hy
      obtain ⟨z, t, hkey⟩ := hk y (Array.mem_toList_iff.mp hy)
      simp [DictEntry.refKey, hkey]
    have a' : ¬ es.toList.any (·.refKey) = true := by rw [a]; exact Bool.false_ne_true
    rw [if_neg a']
    exact congrArg some e

theorem ObjM.look {h : Heap} {x dx C : Addr} {mA : Str → Option Value} (I : ObjM h x dx C mA) : ∃ od, PySem.W.InstAt h x (PySem.W.instObj C dx) C (some od) ∧ ∀ name, PySem.W.lookIn name od = some (mA name) :=
  let ⟨od, ho, hl⟩ := lookIn_ns I.ns
  ⟨od, ⟨I.obj, rfl, rfl, ho⟩, hl⟩

section
variable {prog : Program} {w : World} {A : Around} {E : Value → Shared → Prop} {s : Shared} {K : PySem.W.Frag} {x dx C f : Addr} {mA : Str → Option Value} {name : Str} {v : Value}

theorem get_map {expr : Bool} {Q : Value → Shared → Prop} (X : K.In s.heap) (I : ObjM s.heap x dx C mA) (hg : PySem.W.plainGet K C name = true) (hh : PySem.W.hasDictIn K C = true)
    (ha : PySem.W.findIn K (.ref C) name = some none) (hv : mA name = some v) (hv' : PySem.W.handedIn v = true) (h : Q v { s with toks := s.toks + 1 }) :
    wpAny (model prog w) A (getAttr (.ref x) name expr) Q E s := by
  obtain ⟨od, J, hl⟩ := I.look
  exact PySem.W.get_value X J (PySem.W.plainGet_of hg).1 (PySem.W.findObj_own hh ha rfl (by rw [hl, hv])) hv' h

theorem get_meth {pl : Sem Bool} {Q : Value × List Value → Shared → Prop} (X : K.In s.heap) (I : ObjM s.heap x dx C mA) (hg : PySem.W.plainGet K C name = true)
    (hf : PySem.W.findIn K (.ref C) name = some (some (.ref f))) (ht : PySem.W.isFn K (.ref f) = true) (hv : mA name = none) (h : Q (.ref f, [.ref x]) s) :
    wpAny (model prog w) A (getMethod (.ref x) name pl) Q E s := by
  obtain ⟨od, J, hl⟩ := I.look
  exact PySem.W.method_fn X J (PySem.W.plainGet_of hg).1 (PySem.W.plainGet_of hg).2 hf (beq_iff_eq.mp ht) (by show (PySem.W.lookIn name od).map (·.isSome) = some false; rw [hl, hv]; rfl) h

theorem set_map {ns : List Str} {Q : Unit → Shared → Prop} (X : K.In s.heap) (I : ObjM s.heap x dx C mA)
    (hs : PySem.W.findIn K (.ref C) "__setattr__" = some (some (.builtin "object.__setattr__"))) (hp : PySem.W.plainOver K C = true) (ht : PySem.W.takerIn K C name = some none) (hh : PySem.W.hasDictIn K C = true)
    (hw : PySem.Within mA ns) (hsz : ns.length ≤ sizeLine)
    (h : ∀ h', ObjM h' x dx C (fun y => if y = name then some v else mA y) → Heap.SameBut dx s.heap h' → Q () { s with heap := h', toks := s.toks + 2 }) :
    wpAny (model prog w) A (setAttr (.ref x) name v) Q E s := by
  obtain ⟨od, J, hl⟩ := I.look
  refine PySem.W.set_plain X J hs (PySem.W.osa_open (s := { s with toks := s.toks + 1 }) (r := none) X J hp ht fun b => ?_)
  obtain ⟨cd, hc, hd'⟩ := PySem.W.any_some hh
  have hx : s.heap.get? x = some ⟨.ref C, some dx, .plain, #[]⟩ := I.obj
  refine wpAny_bind (wpAny_pure (wpAny_bind (wpAny_bind (wpAny_loadPart hx (wpAny_bind (PySem.W.Looks.here (s := { s with toks := s.toks + 1 }) (PySem.W.looks_clsIn X hc) ?_))))))
  rw [hd']
  refine wpAny_pure (a := some dx) (wpAny_bind (wpAny_pure (wpAny_bind ?_)))
  refine wpAny_nsSet1 (s := { s with toks := s.toks + 1 }) I.ns fun h' hn2 hs2 => ?_
  obtain ⟨oD, esD, epD, hoD, hdD, hcD⟩ := hn2.count (PySem.Within.cons name v hw)
  refine wpAny_bind (wpAny_lookBehind hoD (by rw [hdD]; exact pastItsLine_dict (Nat.le_trans hcD (by rw [List.length_cons]; omega))) ?_)
  exact wpAny_pure (h _ ⟨(hs2.2 _ (Ne.symm I.ne)).trans I.obj, hn2, I.ne⟩ hs2)

/-- C(..): the dict at the heap's end, the instance behind it; then its __init__ -/
theorem make_map {R : Result → Shared → Prop} {vs : List Value} {kw : List (Str × Value)} (X : K.In s.heap) (hm : PySem.W.makesIn K C = true)
    (hi : PySem.W.findIn K (.ref C) "__init__" = some (some (.ref f))) (hf : PySem.W.typeIn K (.ref f) = some (.type "function"))
    (h : codeAny (model prog w) (A.under (.builtin "type.__call__" ⟨.ref C :: vs, kw⟩)) (.call (.ref f) ⟨.ref (s.heap.objs.size + 1) :: vs, kw⟩) (PySem.W.InitBack (s.heap.objs.size + 1) R)
      { s with heap := (s.heap.push PySem.W.emptyDict).push (PySem.W.instObj C s.heap.objs.size) }) :
    codeAny (model prog w) A (.call (.ref C) ⟨vs, kw⟩) R s := by
  obtain ⟨hh, g, d, t, os⟩ := s
  exact PySem.W.make_core (PySem.W.makes_of X hm) (PySem.W.looks_findIn X hi) (fun self => PySem.W.bind_fn X self hf) (.inl rfl) h
end

/-! ### the attributes as a list of pairs -/
def putF (f : Str) (v : V) : List (Str × V) → List (Str × V)
  | [] => [(f, v)]
  | (g, x) :: r => if g = f then (g, v) :: r else (g, x) :: putF f v r
theorem lookup_putF (f g : Str) (v : V) : ∀ fs : List (Str × V), (putF f v fs).lookup g = if g = f then some v else fs.lookup g
  | [] => by
    show List.lookup g [(f, v)] = _
    by_cases h : g = f
    · have hb : (g == f) = true := beq_iff_eq.mpr h
      simp only [List.lookup, hb, if_pos h]
    · have hb : (g == f) = false := beq_eq_false_iff_ne.mpr h
      simp only [List.lookup, hb, if_neg h]
  | (k, x) :: r => by
    have ih := lookup_putF f g v r
    rw [show putF f v ((k, x) :: r) = (if k = f then (k, v) :: r else (k, x) :: putF f v r) from rfl]
    by_cases hk : k = f
    · rw [if_pos hk]
      by_cases h : g = k
      · have hb : (g == k) = true := beq_iff_eq.mpr h
        simp only [List.lookup, hb, if_pos (h.trans hk)]
      · have hb : (g == k) = false := beq_eq_false_iff_ne.mpr h
        simp only [List.lookup, hb, if_neg (fun e : g = f => h (e.trans hk.symm))]
    · rw [if_neg hk]
      by_cases h : g = k
      · have hb : (g == k) = true := beq_iff_eq.mpr h
        simp only [List.lookup, hb, if_neg (fun e : g = f => hk (h.symm.trans e))]
      · have hb : (g == k) = false := beq_eq_false_iff_ne.mpr h
        simp only [List.lookup, hb]
        exact ih
theorem keys_putF (f : Str) (v : V) : ∀ fs : List (Str × V), f ∈ (putF f v fs).map (·.1) ∧ ∀ g, g ∈ fs.map (·.1) → g ∈ (putF f v fs).map (·.1)
  | [] => ⟨by simp [putF], fun g h => by simp at h⟩
  | (k, x) :: r => by
    obtain ⟨i1, i2⟩ := keys_putF f v r
    rw [show putF f v ((k, x) :: r) = (if k = f then (k, v) :: r else (k, x) :: putF f v r) from rfl]
    by_cases hk : k = f
    · rw [if_pos hk]
      subst hk
      exact ⟨by simp, fun g h => by simpa using h⟩
    · rw [if_neg hk]
      refine ⟨?_, fun g h => ?_⟩
      · rw [List.map_cons]
        exact List.mem_cons_of_mem _ i1
      · rw [List.map_cons] at h ⊢
        rcases List.mem_cons.mp h with e | e
        · exact List.mem_cons.mpr (.inl e)
        · exact List.mem_cons_of_mem _ (i2 g e)
theorem length_putF (f : Str) (v : V) : ∀ fs : List (Str × V), (putF f v fs).length ≤ fs.length + 1
  | [] => by simp [putF]
  | (k, x) :: r => by
    have ih := length_putF f v r
    rw [show putF f v ((k, x) :: r) = (if k = f then (k, v) :: r else (k, x) :: putF f v r) from rfl]
    by_cases hk : k = f
    · rw [if_pos hk, List.length_cons, List.length_cons]; omega
    · rw [if_neg hk, List.length_cons, List.length_cons]; omega

theorem RelO.some_of {v : V} {o : Option Value} (r : RelO (some v) o) : ∃ u, o = some u ∧ RelV v u := by
  cases o with
  | none => exact (show False from r).elim
  | some u => exact ⟨u, rfl, r⟩
theorem RelO.none_of {o : Option Value} (r : RelO none o) : o = none := by
  cases o with
  | none => rfl
  | some u => exact (show False from r).elim
theorem handed_of {v : V} {u : Value} (r : RelV v u) : PySem.W.handedIn u = true := by
  cases v with
  | non => cases (show u = Value.none from r); rfl
  | bl b => cases (show u = Value.bool b from r); rfl
  | int i => obtain ⟨t, e⟩ := (show ∃ t, u = Value.int i t from r); cases e; rfl
  | str x => obtain ⟨t, e⟩ := (show ∃ t, u = Value.str x t from r); cases e; rfl
  | byt b => obtain ⟨t, e⟩ := (show ∃ t, u = Value.bytes b t from r); cases e; rfl
  | flt b => obtain ⟨t, e⟩ := (show ∃ t, u = Value.float b t from r); cases e; rfl
  | ref a => cases (show u = Value.ref a from r); rfl
  | ty n => cases (show u = Value.type n from r); rfl

section
variable {P : Program} {w : World} {H H' : Hp} {h h' : Heap} {a C dx : Addr} {fs fs' : List (Str × V)}
theorem ins_get (hok : HOk P w H h) (e : H a = some (.ins C dx fs)) : ∃ mA, ObjM h a dx C mA ∧ (∀ f, RelO (fs.lookup f) (mA f)) ∧ PySem.Within mA (fs.map (·.1)) ∧ fs.length ≤ 1000 ∧ H dx = some (.own a) := by
  obtain ⟨d, z, ne, ob, mA, n, r, q⟩ := (show ObjOk P w H h a (.ins C dx fs) from hok a _ e)
  exact ⟨mA, ⟨ob, n, ne⟩, r, q, z, d⟩
end

/-! ### what of the text a class must have -/
structure Cls (K : PySem.W.Frag) (C : Addr) : Prop where
  pg : PySem.W.plainGet K C Str.empty = true
  hd : PySem.W.hasDictIn K C = true
  po : PySem.W.plainOver K C = true
  sa : PySem.W.findIn K (.ref C) "__setattr__" = some (some (.builtin "object.__setattr__"))
theorem Cls.get {K : PySem.W.Frag} {C : Addr} (c : Cls K C) (f : Str) : PySem.W.plainGet K C f = true := c.pg
/-- no class of it has the name -/
def NoAttr (K : PySem.W.Frag) (C : Addr) (f : Str) : Prop := PySem.W.findIn K (.ref C) f = some none
theorem NoAttr.taker {K : PySem.W.Frag} {C : Addr} {f : Str} (n : NoAttr K C f) : PySem.W.takerIn K C f = some none := by
  unfold PySem.W.takerIn
  rw [show PySem.W.findIn K (.ref C) f = some none from n]
  rfl
/-- a constant of the class -/
structure Con (K : PySem.W.Frag) (C : Addr) (f : Str) (v : V) (u : Value) : Prop where
  at_ : PySem.W.findIn K (.ref C) f = some (some u)
  rel : RelV v u
  get : PySem.W.specialIn K u "__get__" = some none
  cp : PySem.W.copiedNames.contains f = false
/-- a method: a plain def of the class or of one above it -/
structure Meth (K : PySem.W.Frag) (C : Addr) (m : Str) (f : Addr) : Prop where
  at_ : PySem.W.findIn K (.ref C) m = some (some (.ref f))
  fn : PySem.W.isFn K (.ref f) = true
  kp : PySem.W.keepIn K (.ref f) = true

section
variable {X : Cx} {pins : List (Addr × Obj)} {σ : St} {H : Hp} {s : Shared} {a C dx : Addr} {fs : List (Str × V)} {f : Str} {v : V} {A : Around} {E : Value → Shared → Prop}

theorem getattr_ok {b : Bool} {Q : Value → Shared → Prop} (I : Inv X pins σ H s) (e : H a = some (.ins C dx fs)) (c : Cls X.K C) (n : NoAttr X.K C f) (l : fs.lookup f = some v)
    (h : ∀ u s', Inv X pins σ H s' → RelV v u → Q u s') : wpAny (model X.prog X.w) A (getAttr (.ref a) f b) Q E s := by
  obtain ⟨mA, O, r, _, _, _⟩ := ins_get I.hok e
  obtain ⟨u, hu, ru⟩ := RelO.some_of (v := v) (o := mA f) (by rw [← l]; exact r f)
  exact get_map I.kIn O (c.get f) c.hd n hu (handed_of ru) (h u _ (I.tok _) ru)

theorem getmeth_ok {m : Str} {g : Addr} {pl : Sem Bool} {Q : Value × List Value → Shared → Prop} (I : Inv X pins σ H s) (e : H a = some (.ins C dx fs)) (c : Cls X.K C) (k : Meth X.K C m g) (l : fs.lookup m = none)
    (h : Q (.ref g, [.ref a]) s) : wpAny (model X.prog X.w) A (getMethod (.ref a) m pl) Q E s := by
  obtain ⟨mA, O, r, _, _, _⟩ := ins_get I.hok e
  have hn : mA m = none := RelO.none_of (by rw [← l]; exact r m)
  exact get_meth I.kIn O (c.get m) k.at_ k.fn hn h

theorem setattr_ok {y : V} {u : Value} {Q : Unit → Shared → Prop} (I : Inv X pins σ H s) (e : H a = some (.ins C dx fs)) (c : Cls X.K C) (n : NoAttr X.K C f) (hl : fs.length < 1000) (ry : RelV y u)
    (h : ∀ s', Inv X pins σ (upd H a (.ins C dx (putF f y fs))) s' → Q () s') : wpAny (model X.prog X.w) A (setAttr (.ref a) f u) Q E s := by
  obtain ⟨mA, O, r, wi, _, ho⟩ := ins_get I.hok e
  have hz : (fs.map (·.1)).length ≤ sizeLine := by rw [List.length_map, sizeLine_eq]; omega
  refine set_map I.kIn O c.sa c.po n.taker c.hd wi hz fun h' O' sb => h _ ?_
  have hd : ∃ o, h'.get? dx = some o := let ⟨o, _, _, e', _⟩ := O'.ns; ⟨o, e'⟩
  refine I.write (x := a) (e := dx) (by rw [e]; exact True.intro) (.inr ho) (fun b q hb z => (sb.2 b hb).trans z) hd ?_
  refine ⟨by rw [upd_ne O.ne]; exact ho, ?_, O.ne, O'.obj, _, O'.ns, fun g => ?_, fun g hg => ?_⟩
  · have := length_putF f y fs; omega
  · show RelO ((putF f y fs).lookup g) (if g = f then some u else mA g)
    rw [lookup_putF]
    by_cases q : g = f
    · rw [if_pos q, if_pos q]; exact ry
    · rw [if_neg q, if_neg q]; exact r g
  · by_cases q : g = f
    · rw [q]; exact (keys_putF f y fs).1
    · refine (keys_putF f y fs).2 g (wi g fun z => hg ?_)
      show (if g = f then some u else mA g) = none
      rw [if_neg q]; exact z

/-- a new instance, tracked, without attributes -/
theorem Inv.made (I : Inv X pins σ H s) : Inv X pins σ (upd (upd H s.heap.objs.size (.own (s.heap.objs.size + 1))) (s.heap.objs.size + 1) (.ins C s.heap.objs.size []))
    { s with heap := (s.heap.push PySem.W.emptyDict).push (PySem.W.instObj C s.heap.objs.size) } := by
  have e1 : (s.heap.push PySem.W.emptyDict).get? s.heap.objs.size = some PySem.W.emptyDict := Heap.get?_push_size s.heap rfl
  have e2 : ((s.heap.push PySem.W.emptyDict).push (PySem.W.instObj C s.heap.objs.size)).get? (s.heap.objs.size + 1) = some (PySem.W.instObj C s.heap.objs.size) := by
    have := Heap.get?_push_size (s.heap.push PySem.W.emptyDict) (o := PySem.W.instObj C s.heap.objs.size) rfl
    rwa [Heap.size_push] at this
  have e3 : (s.heap.push PySem.W.emptyDict).Ns s.heap.objs.size (fun _ => none) := ⟨PySem.W.emptyDict, #[], _, e1, rfl, (fun e he => absurd he (by simp)), fun _ => rfl⟩
  have I1 := I.laid (a := s.heap.objs.size) (o := .own (s.heap.objs.size + 1)) (h' := s.heap.push PySem.W.emptyDict) (t' := s.toks) (fun b u q => Heap.get?_push_of_some _ q) (Nat.le_refl _) ⟨_, e1⟩
  refine I1.laid (a := s.heap.objs.size + 1) (o := .ins C s.heap.objs.size []) (t' := s.toks) (fun b u q => Heap.get?_push_of_some _ q) (Nat.le_of_eq (Heap.size_push _ _)) ?_
  have ne : s.heap.objs.size ≠ s.heap.objs.size + 1 := Nat.ne_of_lt (Nat.lt_succ_self _)
  refine ⟨by rw [upd_ne ne, upd_same], Nat.zero_le _, ne, e2, fun _ => none, (Heap.Ns1.of_empty e3).at fun o q => Heap.get?_push_of_some _ q, fun _ => True.intro, fun y hy => absurd rfl hy⟩

/-- e.f where nothing but the object is asked: through attributeBase (super) and the last hold -/
theorem attr_of {prog : Program} {w : World} {env : Env} {e : Expr} {f : Str} {pos : Pos} {s : Shared} {Q : Value → Shared → Prop} (hb : attributeBase e f env (eval e env) = eval e env)
    (h : wpAny (model prog w) A (eval e env) (fun o s₁ => wpAny (model prog w) A (getAttr o f true) Q E s₁) E s) : wpAny (model prog w) A (eval (.Attribute e f pos) env) Q E s :=
  Attribute_any_ h (by rw [arm_eval_Attribute, hb])
end

/-! ### readings and rules -/
/-- e.f, an attribute of the instance -/
def tFld (K : PySem.W.Frag) (ta : TE) (f : Str) : TE := fun σ H Q => ta σ H fun x H1 => ∃ a C dx fs v, x = .ref a ∧ H1 a = some (.ins C dx fs) ∧ Cls K C ∧ NoAttr K C f ∧ fs.lookup f = some v ∧ Q v H1
/-- e.f = value -/
def sFld (K : PySem.W.Frag) (ta tv : TE) (f : Str) : TS := fun D σ H => tv σ H fun y H1 => ta σ H1 fun x H2 => ∃ a C dx fs, x = .ref a ∧ H2 a = some (.ins C dx fs) ∧ Cls K C ∧ NoAttr K C f ∧ fs.length < 1000 ∧
  D.nx σ (upd H2 a (.ins C dx (putF f y fs)))
section
variable {X : Cx} {o e value : Expr} {f : Str} {pos pos' tpos : Pos} {ta tv : TE}
theorem pe_fld (he : PE X e ta) (hb : attributeBase e f X.env (eval e X.env) = eval e X.env) : PE X (.Attribute e f pos) (tFld X.K ta f) := by
  intro pins s σ H Q I h
  refine attr_of hb (thn (he pins s σ H _ I h) fun u s1 ⟨x, H1, I1, rx, a, C, dx, fs, v, ex, ea, c, n, l, q⟩ => ?_)
  subst ex
  obtain rfl : u = Value.ref a := rx
  exact getattr_ok I1 ea c n l fun u' s2 I2 ru => ⟨v, H1, I2, ru, q⟩
theorem ps_fld (ha : PE X o ta) (hv : PE X value tv) (hs : swapsWith value (some (.Attribute o f pos')) pos.line X.env = pure false) : PS X (.Assign [.Attribute o f pos'] value pos) (sFld X.K ta tv f) := by
  intro pins s σ H D I h
  refine plainObj_wpAny_Assign_Attribute (thn (hv pins s σ H _ I h) fun u s1 ⟨y, H1, I1, ry, q⟩ => thn (ha pins s1 σ H1 _ I1 q) fun ov s2 ⟨x, H2, I2, rx, a, C, dx, fs, ex, ea, c, n, l, q2⟩ => ?_) hs
  subst ex
  obtain rfl : ov = Value.ref a := rx
  exact setattr_ok I2 ea c n l ry fun s3 I3 => ⟨σ, _, I3, q2⟩
end

/-! ### isinstance -/
section
variable {X : Cx} {pins : List (Addr × Obj)} {σ : St} {H : Hp} {s : Shared} {A : Around} {E : Value → Shared → Prop} {Q : Value → Shared → Prop} {c : Value} {b : Bool}
/-- the type of a value, as the fragment's deciders take it; for an instance its class -/
inductive TyOf (K : PySem.W.Frag) (H : Hp) : V → Value → Prop where
  | non : TyOf K H .non (.type "NoneType")
  | bl (x : Bool) : TyOf K H (.bl x) (.type "bool")
  | int (i : Int) : TyOf K H (.int i) (.type "int")
  | str (x : Str) : TyOf K H (.str x) (.type "str")
  | flt (x : UInt64) : TyOf K H (.flt x) (.type "float")
  | lst {a : Addr} {xs : List V} (e : H a = some (.lst xs)) : TyOf K H (.ref a) (.type "list")
  | frz {a : Addr} {o : Obj} {xs : List V} (e : H a = some (.frz o (.lst xs))) : TyOf K H (.ref a) (.type "list")
  | tup {a : Addr} {xs : List V} (e : H a = some (.tup xs)) : TyOf K H (.ref a) (.type "tuple")
  | dK {a : Addr} {kvs : List (Key × V)} (e : H a = some (.dK kvs)) : TyOf K H (.ref a) (.type "dict")
  | dT {a : Addr} {kvs : List (List Key × V)} (e : H a = some (.dT kvs)) : TyOf K H (.ref a) (.type "dict")
  | ins {a C dx : Addr} {fs : List (Str × V)} (e : H a = some (.ins C dx fs)) (cl : Cls K C) (ha : PySem.W.findIn K (.ref C) "__class__" = some (some (.builtin "object.__class__")))
      (hn : PySem.W.specialIn K (.builtin "object.__class__") "__get__" = some (some (.builtin "getset_descriptor.__get__"))) (htk : PySem.W.takesIn K (.builtin "object.__class__") = some true)
      (hm : PySem.W.mroIn K C (.type "object") = some true) : TyOf K H (.ref a) (.ref C)
/-- isinstance(x, c) for one class c, a built-in or an own one: kitOne's answer -/
theorem isinst_ok {x : V} {u t : Value} (I : Inv X pins σ H s) (rx : RelV x u) (ty : TyOf X.K H x t) (e : PySem.W.kitOne X.K t c = some b) (h : ∀ tk, Q (.bool b) { s with toks := tk }) :
    wpAny (model X.prog X.w) A (call (.builtin "isinstance") [u, c]) Q E s := by
  cases ty with
  | non => cases (show u = Value.none from rx); exact PySem.W.kia_one PySem.W.kitx_none I.kIn True.intro e (fun z => nomatch z) h
  | bl y => cases (show u = Value.bool y from rx); exact PySem.W.kia_one PySem.W.kitx_bool I.kIn True.intro e (fun z => nomatch z) h
  | int i => obtain ⟨t, q⟩ := (show ∃ t, u = Value.int i t from rx); cases q; exact PySem.W.kia_one PySem.W.kitx_int I.kIn True.intro e (fun z => nomatch z) h
  | str y => obtain ⟨t, q⟩ := (show ∃ t, u = Value.str y t from rx); cases q; exact PySem.W.kia_one PySem.W.kitx_str I.kIn True.intro e (fun z => nomatch z) h
  | flt y => obtain ⟨t, q⟩ := (show ∃ t, u = Value.float y t from rx); cases q; exact PySem.W.kia_one PySem.W.kitx_float I.kIn True.intro e (fun z => nomatch z) h
  | @lst a xs ea =>
    cases (show u = Value.ref a from rx)
    obtain ⟨_, _, n, _, h1⟩ := (show ObjOk X.prog X.w H s.heap a (.lst xs) from I.hok a _ ea)
    exact PySem.W.kia_one PySem.W.kitx_list I.kIn ⟨_, h1, rfl⟩ e (fun z => nomatch z) h
  | @frz a ob xs ea =>
    cases (show u = Value.ref a from rx)
    obtain ⟨_, _, _, n, _, h1⟩ := (show ObjOk X.prog X.w H s.heap a (.frz ob (.lst xs)) from I.hok a _ ea)
    exact PySem.W.kia_one PySem.W.kitx_list I.kIn ⟨_, h1, rfl⟩ e (fun z => nomatch z) h
  | @tup a xs ea =>
    cases (show u = Value.ref a from rx)
    obtain ⟨_, _, _, p⟩ := (show ObjOk X.prog X.w H s.heap a (.tup xs) from I.hok a _ ea)
    obtain ⟨o, h1, h2, _⟩ := p
    exact PySem.W.kia_one PySem.W.kitx_tuple I.kIn ⟨o, h1, h2⟩ e (fun z => nomatch z) h
  | @dK a kvs ea =>
    cases (show u = Value.ref a from rx)
    obtain ⟨_, _, vs, _, p⟩ := (show ObjOk X.prog X.w H s.heap a (.dK kvs) from I.hok a _ ea)
    obtain ⟨o, es, ep, h1, h2, _⟩ := p
    exact PySem.W.kia_one PySem.W.kitx_dict I.kIn ⟨o, h1, h2.1⟩ e (fun z => nomatch z) h
  | @dT a kvs ea =>
    cases (show u = Value.ref a from rx)
    obtain ⟨_, _, xs, _, o, es, ep, h1, h2, _⟩ := (show ObjOk X.prog X.w H s.heap a (.dT kvs) from I.hok a _ ea)
    exact PySem.W.kia_one PySem.W.kitx_dict I.kIn ⟨o, h1, h2.1⟩ e (fun z => nomatch z) h
  | @ins a C dx fs ea cl ha hn htk hm =>
    cases (show u = Value.ref a from rx)
    obtain ⟨mA, O, _⟩ := ins_get I.hok ea
    obtain ⟨od, J, _⟩ := O.look
    exact PySem.W.kia_one (PySem.W.kitx_own (cl.get _) cl.hd ha hn htk hm) I.kIn J e (fun z => nomatch z) h
end
end L2

namespace L2
open PySem PySem.Spec PyProof.Rows

/-! ### room -/
structure Room (k : Nat) (A : Around) : Prop where
  hd : A.handled = none
  dp : A.depth + 3 * k + 5 < recursionLimit
  un : A.units + 16 * k + 200 < cLine
theorem Room.mono {j k : Nat} {A : Around} (r : Room k A) (h : j ≤ k) : Room j A := ⟨r.hd, by have := r.dp; omega, by have := r.un; omega⟩
theorem Room.deeper {k : Nat} {A : Around} (r : Room (k + 1) A) (env : Env) : Room k (A.deeper env) :=
  ⟨r.hd, by have := r.dp; show A.depth + 1 + 3 * k + 5 < _; omega, by have := r.un; show A.units + 3 + 16 * k + 200 < _; omega⟩
theorem Room.in1 {k : Nat} {A : Around} (r : Room (k + 1) A) : Room k A.in1 :=
  ⟨r.hd, by have := r.dp; show A.depth + 3 * k + 5 < _; omega, by have := r.un; show A.units + 1 + 16 * k + 200 < _; omega⟩
theorem make_depth {A : Around} {C : Addr} {us : List Value} {kw : List (Str × Value)} : (A.under (.builtin "type.__call__" ⟨.ref C :: us, kw⟩)).depth = A.depth + 1 := by
  first | rfl | simp [Around.under, Code.weight, Code.isCreation, Code.isGuard, Code.isCaller, Code.frames, Code.isFrame, guardIds]
theorem make_units {A : Around} {C : Addr} {us : List Value} {kw : List (Str × Value)} : (A.under (.builtin "type.__call__" ⟨.ref C :: us, kw⟩)).units = A.units + 1 := by
  first | rfl | simp [Around.under, Code.cUnits, Code.frames, Code.isFrame]
theorem Room.make {k : Nat} {A : Around} (r : Room (k + 1) A) (C : Addr) (us : List Value) (kw : List (Str × Value)) : Room k (A.under (.builtin "type.__call__" ⟨.ref C :: us, kw⟩)) :=
  ⟨r.hd, by have := r.dp; rw [make_depth]; omega, by have := r.un; rw [make_units]; omega⟩
theorem Room.depth {k : Nat} {A : Around} (r : Room k A) : A.depth < recursionLimit := by have := r.dp; omega
theorem Room.units {k : Nat} {A : Around} (r : Room k A) : A.units + 64 < cLine := by have := r.un; omega
theorem Room.units0 {k : Nat} {A : Around} (r : Room k A) : A.units < cLine := by have := r.un; omega

/-! ### argument lists and displays -/
def tNil : TA := fun _ H Q => Q [] H
def tCons (ta : TE) (tr : TA) : TA := fun σ H Q => ta σ H fun x H1 => tr σ H1 fun xs H2 => Q (x :: xs) H2
section
variable {X : Cx} {e : Expr} {es : List Expr} {te : TE} {t : TA} {pos : Pos}
theorem pa_nil : PA X [] tNil := fun _ _ _ _ H Q I h => Calls.spliced_nil ⟨[], H, I, .nil, h⟩
theorem pa_cons (ha : PE X e te) (hr : PA X es t) (hs : starEach (e :: es) X.env = (false, eval e X.env) :: starEach es X.env := by rfl) : PA X (e :: es) (tCons te t) := by
  intro pos pins s σ H Q I h
  rw [hs]
  show wpAny _ _ (spliced ((false, eval e X.env) :: backTo pos (starEach es X.env))) _ _ s
  refine Calls.spliced_cons (thn (ha pins s σ H _ I h) fun u s1 ⟨x, H1, I1, r1, q1⟩ => ?_)
  exact thn (hr pos pins s1 σ H1 _ I1 q1) fun us s2 ⟨xs, H2, I2, r2, q2⟩ => ⟨x :: xs, H2, I2, .cons r1 r2, q2⟩

/-- a tuple, a list of written items -/
def tTup (t : TA) : TE := fun σ H Q => t σ H fun xs H1 => xs.length ≤ sizeLine ∧ ∀ p, H1 p = none → Q (.ref p) (upd H1 p (.tup xs))
def tLst (t : TA) : TE := fun σ H Q => t σ H fun xs H1 => xs.length ≤ sizeLine ∧ ∀ p, H1 p = none → Q (.ref p) (upd H1 p (.lst xs))
theorem pe_tup {x1} (h : PA X es t) : PE X (.Tuple es x1 pos) (tTup t) := by
  intro pins s σ H Q I hq
  refine wpAny_Tuple_spliced (thn (h pos pins s σ H _ I hq) fun us s1 ⟨xs, H1, I1, r, z, q⟩ => ⟨by rw [← r.length]; exact z, ?_⟩)
  have hf : H1 s1.heap.objs.size = none := I1.hok.fresh (Nat.le_refl _)
  refine ⟨.ref s1.heap.objs.size, upd H1 s1.heap.objs.size (.tup xs), I1.laid (t' := s1.toks) (fun b u e => Heap.get?_push_of_some _ e) (Nat.le_refl _) ?_, rfl, q _ hf⟩
  exact ⟨z, us, r, ⟨_, Heap.get?_push_size _ rfl, rfl, _, rfl⟩⟩
theorem pe_lst (h : PA X es t) : PE X (.List es pos) (tLst t) := by
  intro pins s σ H Q I hq
  refine wpAny_List_spliced (thn (h pos pins s σ H _ I hq) fun us s1 ⟨xs, H1, I1, r, z, q⟩ => ⟨by rw [← r.length]; exact z, ?_⟩)
  have hf : H1 s1.heap.objs.size = none := I1.hok.fresh (Nat.le_refl _)
  refine ⟨.ref s1.heap.objs.size, upd H1 s1.heap.objs.size (.lst xs), I1.laid (t' := s1.toks) (fun b u e => Heap.get?_push_of_some _ e) (Nat.le_refl _) ?_, rfl, q _ hf⟩
  exact ⟨z, us, 0, r, Heap.get?_push_size _ rfl⟩
end

/-! ### what a def promises -/
/-- a def's promise: the bound arguments in the parameters' order, the heap, the wanted end, the wanted exception -/
abbrev Sp := List V → Hp → VK → XK → Prop
/-- how an exception lies behind a call (file 08 gives it): the callers' frames, abstract heap and state ahead of the call, the wish, the exception, the state -/
abbrev CXT := List Env → Hp → Shared → XK → Value → Shared → Prop

/-- the state at a call -/
structure Env0 (P : Program) (w : World) (K : PySem.W.Frag) (mg : Str → Option Value) (base : Heap) (A : Around) (outer : List Env) (s : Shared) (H : Hp) : Prop where
  frames : A.frames = some outer
  mod : Mod K mg base
  bs : ∀ b o, base.get? b = some o → s.heap.get? b = some o ∧ H b = none
  bsz : base.objs.size ≤ s.heap.objs.size
  funs : s.heap.FunFrames base outer
  frf : ∀ b ∈ frs outer, H b = none
  hok : HOk P w H s.heap
  bare : AllBare s.gens
/-- a call's end -/
def CE (outer : List Env) (P : Program) (w : World) (H : Hp) (s : Shared) (Q : VK) (u : Value) (s' : Shared) : Prop :=
  ∃ v H', s'.os = s.os ∧ AllBare s'.gens ∧ Un (frs outer) [] H H' s.heap s'.heap ∧ HOk P w H' s'.heap ∧ RelV v u ∧ Q v H'
def CR (CX : CXT) (outer : List Env) (P : Program) (w : World) (H : Hp) (s : Shared) (Q : VK) (E : XK) (r : Result) (s' : Shared) : Prop :=
  match r with
  | .ok (.ret u) => CE outer P w H s Q u s'
  | .ok _ => False
  | .error e => CX outer H s E e s'
structure FnOk (P : Program) (w : World) (K : PySem.W.Frag) (mg : Str → Option Value) (base : Heap) (CX : CXT) (k : Nat) (f : Addr) (fd : FuncData) (ps : List Str) (sp : Sp) : Prop where
  len : ∀ vs H Q E, sp vs H Q E → vs.length = ps.length
  run : ∀ (A : Around) (outer : List Env) (s : Shared) (H : Hp) (args : Args) (us : List Value) (vs : List V) (Q : VK) (E : XK), Room k A → Env0 P w K mg base A outer s H → BindsTo s fd args (ps.zip us) → Vals vs us → sp vs H Q E →
    codeAny (model P w) A (.call (.ref f) args) (CR CX outer P w H s Q E) s
/-- a weaker promise -/
theorem FnOk.imp {P : Program} {w : World} {K : PySem.W.Frag} {mg : Str → Option Value} {base : Heap} {CX : CXT} {k : Nat} {f : Addr} {fd : FuncData} {ps : List Str} {sp sp' : Sp} (F : FnOk P w K mg base CX k f fd ps sp)
    (h : ∀ vs H Q E, sp' vs H Q E → sp vs H Q E) : FnOk P w K mg base CX k f fd ps sp' :=
  ⟨fun vs H Q E q => F.len vs H Q E (h _ _ _ _ q), fun A outer s H args us vs Q E hr he hb hv hs => F.run A outer s H args us vs Q E hr he hb hv (h _ _ _ _ hs)⟩

theorem Env0.make {P : Program} {w : World} {K : PySem.W.Frag} {mg : Str → Option Value} {base : Heap} {A : Around} {outer : List Env} {s : Shared} {H : Hp} (e : Env0 P w K mg base A outer s H) (C : Addr) (us : List Value) (kw : List (Str × Value)) :
    Env0 P w K mg base (A.under (.builtin "type.__call__" ⟨.ref C :: us, kw⟩)) outer s H := ⟨by first | exact e.frames | (simpa [Around.under, Code.envs, Code.isFrame, pushEnvs] using e.frames), e.mod, e.bs, e.bsz, e.funs, e.frf, e.hok, e.bare⟩
section
variable {X : Cx} {pins : List (Addr × Obj)} {σ : St} {H : Hp} {s s' : Shared}
/-- from a body: what a callee wants -/
theorem Inv.env0 (I : Inv X pins σ H s) : Env0 X.prog X.w X.K X.mg X.base X.A X.stack s H :=
  ⟨I.ok.frames, I.ok.mod, I.bs, Nat.le_trans I.ok.bsz I.sz, I.stack, I.stkFree, I.hok, I.bare⟩
/-- behind a call -/
theorem Inv.after {Q : VK} {u : Value} (I : Inv X pins σ H s) (h : CE X.stack X.prog X.w H s Q u s') : EP X pins σ Q u s' := by
  obtain ⟨v, H', os, bare, un, hok, r, q⟩ := h
  obtain ⟨hh, g, d, t, os'⟩ := s'
  obtain rfl : os' = s.os := os
  exact ⟨v, H', I.call (h' := hh) (g' := g) (d' := d) (t' := t) (ch := []) un hok bare (fun b z => absurd z (by simp)), r, q⟩
end

/-! ### calls -/
/-- f(..): the written arguments, then the defaults dvs; E: what is wanted of an exception -/
def tCall (sp : Sp) (dvs : List V) (E : XK) (t : TA) : TE := fun σ H Q => t σ H fun vs H1 => sp (vs ++ dvs) H1 Q E
/-- o.m(..) of an instance of the class at C -/
def tMeth (C : Addr) (m : Str) (sp : Sp) (dvs : List V) (E : XK) (ta : TE) (t : TA) : TE := fun σ H Q => ta σ H fun x H1 => ∃ a dx fs, x = .ref a ∧ H1 a = some (.ins C dx fs) ∧ fs.lookup m = none ∧
  t σ H1 fun vs H2 => sp (x :: (vs ++ dvs)) H2 Q E
/-- C(..): a new instance and its dict, then __init__ -/
def tMake (C : Addr) (sp : Sp) (dvs : List V) (E : XK) (t : TA) : TE := fun σ H Q => t σ H fun vs H1 => ∀ x dx, H1 x = none → H1 dx = none → dx ≠ x →
  sp (.ref x :: (vs ++ dvs)) (upd (upd H1 dx (.own x)) x (.ins C dx [])) (fun v H2 => v = .non ∧ Q (.ref x) H2) E

/-- how the parameters are bound: us the positional arguments, kw the keywords' values by name, ds the defaults that fill up -/
def Binds (K : PySem.W.Frag) (fd : FuncData) (ps : List Str) (ds : List Value) : Prop :=
  ∀ (s : Shared) (us : List Value), K.In s.heap → (us ++ ds).length = ps.length → BindsTo s fd ⟨us, []⟩ (ps.zip (us ++ ds))
/-- every parameter is given -/
theorem Binds.all {K : PySem.W.Frag} {fd : FuncData} {ps : List Str} (h : ∀ us : List Value, us.length = ps.length → bindArgs fd ⟨us, []⟩ = pure (ps.zip us)) : Binds K fd ps [] := fun s us _ hl => by
  rw [List.append_nil] at hl ⊢
  exact .of_eq (h us hl)

/-- an exception of a callee reaches what this body wants of exceptions -/
def Passes (CX : CXT) (X : Cx) (E : XK) : Prop := ∀ (pins : List (Addr × Obj)) (σ : St) (H : Hp) (s : Shared) (e : Value) (s' : Shared), Inv X pins σ H s → CX X.stack H s E e s' → X.xe e s'

section
variable {X : Cx} {CX : CXT} {k : Nat} {f C : Addr} {fd : FuncData} {ps : List Str} {sp : Sp} {dvs : List V} {ds : List Value} {E : XK} {x m : Str} {p pos apos : Pos} {e o : Expr} {es : List Expr} {ta : TE} {t : TA}

/-- the callee runs -/
theorem run_fn {pins : List (Addr × Obj)} {σ : St} {H : Hp} {s : Shared} {Q : VK} {us : List Value} {vs : List V} (F : FnOk X.prog X.w X.K X.mg X.base CX k f fd ps sp) (hr : Room k X.A) (hb : Binds X.K fd ps ds) (hd : Vals dvs ds) (hx : Passes CX X E)
    (I : Inv X pins σ H s) (r : Vals vs us) (h : sp (vs ++ dvs) H Q E) : wpAny (model X.prog X.w) X.A (call (.ref f) us) (EP X pins σ Q) X.xe s := by
  have r2 : Vals (vs ++ dvs) (us ++ ds) := r.append hd
  have hl : (us ++ ds).length = ps.length := by rw [← r2.length]; exact F.len _ _ _ _ h
  refine wpAny_call (codeAny_mono (F.run X.A X.stack s H ⟨us, []⟩ (us ++ ds) (vs ++ dvs) Q E hr I.env0 (hb s us I.kIn hl) r2 h) fun r s' hq => ?_)
  cases r with
  | error e => exact hx pins σ H s e s' I hq
  | ok fl =>
    cases fl with
    | ret u => exact I.after hq
    | next => exact False.elim hq
    | brk => exact False.elim hq
    | cont => exact False.elim hq

theorem pe_call (F : FnOk X.prog X.w X.K X.mg X.base CX k f fd ps sp) (hr : Room k X.A) (hg : Gl X x) (hm : X.mg x = some (.ref f)) (hk : PySem.W.keepIn X.K (.ref f) = true) (hb : Binds X.K fd ps ds) (hd : Vals dvs ds) (hx : Passes CX X E)
    (ha : PA X (e :: es) t) (hdb : (x == ("__debug__" : Str)) = false := by decide) (he : starEach (e :: es) X.env = (false, eval e X.env) :: starEach es X.env := by rfl) (hpl : (backTo pos (starEach es X.env)).any (·.1) = false := by rfl) :
    PE X (.Call (.Name x p) (e :: es) [] pos) (tCall sp dvs E t) := by
  intro pins s σ H Q I h
  refine wpAny_Call_Name_kw (ld_glob I hg hm ?_ hdb)
  refine PySem.W.callWith_K (h₀ := X.base) I.ok.mod.kin hk (thn (ha pos pins s σ H _ I h) fun us s1 ⟨vs, H1, I1, r, q⟩ => ⟨I1.kIn, ?_⟩) he hpl
  exact run_fn F hr hb hd hx I1 r q
/-- o.m(e, ..) -/
theorem pe_meth {pl : Sem Bool} (he : PE X o ta) (c : Cls X.K C) (hm : Meth X.K C m f) (F : FnOk X.prog X.w X.K X.mg X.base CX k f fd ps sp) (hr : Room k X.A) (hb : Binds X.K fd ps ds) (hd : Vals dvs ds) (hx : Passes CX X E) (ha : PA X (e :: es) t)
    (hst : starEach (e :: es) X.env = (false, eval e X.env) :: starEach es X.env := by rfl) (hpl : (backTo pos (starEach es X.env)).any (·.1) = false := by rfl)
    (ht : eval (.Call (.Attribute o m apos) (e :: es) [] pos) X.env = (do
      let ov ← eval o X.env
      standAt apos.atName
      let (f, first) ← holding [ov] (getMethod ov m pl)
      callWith pos f first (backTo pos (starEach (e :: es) X.env)) (backToKw pos (keywordEach [] X.env))) := by rfl) :
    PE X (.Call (.Attribute o m apos) (e :: es) [] pos) (tMeth C m sp dvs E ta t) := by
  intro pins s σ H Q I h
  refine PySem.W.methodCall_KW (pl := pl) (thn (he pins s σ H _ I h) fun u s1 ⟨x, H1, I1, rx, a, dx, fs, ex, ea, l, q⟩ => ?_) ht
  subst ex
  obtain rfl : u = Value.ref a := rx
  refine getmeth_ok I1 ea c hm l ?_
  refine PySem.W.callWith_K (first := [.ref a]) (h₀ := X.base) I.ok.mod.kin hm.kp (thn (ha pos pins s1 σ H1 _ I1 q) fun us s2 ⟨vs, H2, I2, r, q2⟩ => ⟨I2.kIn, ?_⟩) hst hpl
  exact run_fn (us := .ref a :: us) (vs := .ref a :: vs) F hr hb hd hx I2 (.cons rfl r) q2
/-- o.m() -/
theorem pe_meth0 {pl : Sem Bool} (he : PE X o ta) (c : Cls X.K C) (hm : Meth X.K C m f) (F : FnOk X.prog X.w X.K X.mg X.base CX k f fd ps sp) (hr : Room k X.A) (hb : Binds X.K fd ps ds) (hd : Vals dvs ds) (hx : Passes CX X E)
    (ht : eval (.Call (.Attribute o m apos) [] [] pos) X.env = (do
      let ov ← eval o X.env
      standAt apos.atName
      let (f, first) ← holding [ov] (getMethod ov m pl)
      callWith pos f first (backTo pos (starEach [] X.env)) (backToKw pos (keywordEach [] X.env))) := by rfl) :
    PE X (.Call (.Attribute o m apos) [] [] pos) (tMeth C m sp dvs E ta tNil) := by
  intro pins s σ H Q I h
  refine PySem.W.methodCall_KW (pl := pl) (thn (he pins s σ H _ I h) fun u s1 ⟨x, H1, I1, rx, a, dx, fs, ex, ea, l, q⟩ => ?_) ht
  subst ex
  obtain rfl : u = Value.ref a := rx
  refine getmeth_ok I1 ea c hm l ?_
  exact PySem.W.callWith_K0 (first := [.ref a]) I1.kIn hm.kp (run_fn (us := [.ref a]) (vs := [.ref a]) F hr hb hd hx I1 (.cons rfl .nil) q)

/-- what a class must have to be made -/
structure Mk (K : PySem.W.Frag) (C f : Addr) : Prop where
  makes : PySem.W.makesIn K C = true
  init : PySem.W.findIn K (.ref C) "__init__" = some (some (.ref f))
  fn : PySem.W.isFn K (.ref f) = true
  kp : PySem.W.keepIn K (.ref C) = true

theorem run_make {pins : List (Addr × Obj)} {σ : St} {H : Hp} {s : Shared} {Q : VK} {us : List Value} {vs : List V} (M : Mk X.K C f) (F : FnOk X.prog X.w X.K X.mg X.base CX k f fd ps sp) (hr : Room (k + 1) X.A) (hb : Binds X.K fd ps ds) (hd : Vals dvs ds)
    (hx : Passes CX X E) (I : Inv X pins σ H s) (r : Vals vs us)
    (h : ∀ x dx, H x = none → H dx = none → dx ≠ x → sp (.ref x :: (vs ++ dvs)) (upd (upd H dx (.own x)) x (.ins C dx [])) (fun v H2 => v = .non ∧ Q (.ref x) H2) E) :
    wpAny (model X.prog X.w) X.A (call (.ref C) us) (EP X pins σ Q) X.xe s := by
  have hq := h (s.heap.objs.size + 1) s.heap.objs.size (I.hok.fresh (Nat.le_succ _)) (I.hok.fresh (Nat.le_refl _)) (Nat.ne_of_lt (Nat.lt_succ_self _))
  have I2 := Inv.made (C := C) I
  have r2 : Vals (V.ref (s.heap.objs.size + 1) :: (vs ++ dvs)) (Value.ref (s.heap.objs.size + 1) :: (us ++ ds)) := .cons rfl (r.append hd)
  have hl : (Value.ref (s.heap.objs.size + 1) :: us ++ ds).length = ps.length := by
    have e := r2.length
    rw [F.len _ _ _ _ hq] at e
    exact e.symm
  refine wpAny_call (make_map (f := f) I.kIn M.makes M.init (beq_iff_eq.mp M.fn) (codeAny_mono (F.run _ X.stack _ _ ⟨Value.ref (s.heap.objs.size + 1) :: us, []⟩ (Value.ref (s.heap.objs.size + 1) :: (us ++ ds)) _ _ E (hr.make C us [])
    (I2.env0.make C us []) (hb _ (Value.ref (s.heap.objs.size + 1) :: us) I2.kIn hl) r2 hq) fun r s' hq' => ?_))
  cases r with
  | error e => exact hx pins σ _ _ e s' I2 hq'
  | ok fl =>
    cases fl with
    | ret u =>
      obtain ⟨v, H', I3, rv, ev, q3⟩ := I2.after hq'
      subst ev
      exact ⟨rv, ⟨V.ref (s.heap.objs.size + 1), H', I3, rfl, q3⟩⟩
    | next => exact False.elim hq'
    | brk => exact False.elim hq'
    | cont => exact False.elim hq'
theorem pe_make (M : Mk X.K C f) (F : FnOk X.prog X.w X.K X.mg X.base CX k f fd ps sp) (hr : Room (k + 1) X.A) (hg : Gl X x) (hm : X.mg x = some (.ref C)) (hb : Binds X.K fd ps ds) (hd : Vals dvs ds) (hx : Passes CX X E)
    (ha : PA X (e :: es) t) (hdb : (x == ("__debug__" : Str)) = false := by decide) (he : starEach (e :: es) X.env = (false, eval e X.env) :: starEach es X.env := by rfl) (hpl : (backTo pos (starEach es X.env)).any (·.1) = false := by rfl) :
    PE X (.Call (.Name x p) (e :: es) [] pos) (tMake C sp dvs E t) := by
  intro pins s σ H Q I h
  refine wpAny_Call_Name_kw (ld_glob I hg hm ?_ hdb)
  refine PySem.W.callWith_K (h₀ := X.base) I.ok.mod.kin M.kp (thn (ha pos pins s σ H _ I h) fun us s1 ⟨vs, H1, I1, r, q⟩ => ⟨I1.kIn, ?_⟩) he hpl
  exact run_make M F hr hb hd hx I1 r q
theorem pe_make0 (M : Mk X.K C f) (F : FnOk X.prog X.w X.K X.mg X.base CX k f fd ps sp) (hr : Room (k + 1) X.A) (hg : Gl X x) (hm : X.mg x = some (.ref C)) (hb : Binds X.K fd ps ds) (hd : Vals dvs ds) (hx : Passes CX X E)
    (hdb : (x == ("__debug__" : Str)) = false := by decide) : PE X (.Call (.Name x p) [] [] pos) (tMake C sp dvs E tNil) := by
  intro pins s σ H Q I h
  refine wpAny_Call_Name_kw (ld_glob I hg hm ?_ hdb)
  exact PySem.W.callWith_K0 I.kIn M.kp (run_make (us := []) M F hr hb hd hx I .nil h)
end

/-! ### keywords -/
section
variable {X : Cx} {CX : CXT} {k : Nat} {f C : Addr} {fd : FuncData} {ps ks : List Str} {sp : Sp} {E : XK} {x m : Str} {p pos apos kpos : Pos} {e o : Expr} {es : List Expr} {kws : List Keyword} {te ta : TE} {t tk : TA} {nm : Option Str}
/-- how a call with keywords binds: g puts the positional values us and the keywords' values ws (names ks) in the parameters' order, defaults among them -/
structure KBinds (K : PySem.W.Frag) (fd : FuncData) (ps ks : List Str) (g : List Value → List Value → List Value) (gV : List V → List V → List V) : Prop where
  to : ∀ (s : Shared) (us ws : List Value), K.In s.heap → (g us ws).length = ps.length → BindsTo s fd ⟨us, ks.zip ws⟩ (ps.zip (g us ws))
  rel : ∀ {vs : List V} {us : List Value} {zs : List V} {ws : List Value}, Vals vs us → Vals zs ws → Vals (gV vs zs) (g us ws)
variable {g : List Value → List Value → List Value} {gV : List V → List V → List V}
end

/-! ### a def's body keeps its promise -/
/-- names: the parameters first -/
structure FnScope (N P : List Str) (sc : Scope) : Prop where
  kind : sc.kind = .function
  co : sc.isCoroutine = false
  gen : sc.isGenerator = false
  nd : N.Nodup
  pre : N.take P.length = P
  par : ∀ x ∈ P, sc.names.lookup x = some .local ∨ sc.names.lookup x = some .cell
  nofree : ∀ y ∈ sc.names, y.2 ≠ .free

theorem bindL_out {kindOf : Str → Option NameKind} {x : Str} : ∀ {binds : List (Str × Value)} {m : Str → Option Value}, (∀ v, (x, v) ∉ binds) → bindL kindOf binds m x = m x
  | [], _, _ => rfl
  | (n, v) :: r, m, h => by
    unfold bindL
    rw [bindL_out fun w hw => h w (List.mem_cons_of_mem _ hw)]
    split
    · have : x ≠ n := by rintro rfl; exact h v List.mem_cons_self
      simp [this]
    · rfl
theorem bindC_out {kindOf : Str → Option NameKind} {x : Str} : ∀ {binds : List (Str × Value)} {m : Str → Option Value}, (∀ v, (x, v) ∉ binds) → bindC kindOf binds m x = m x
  | [], _, _ => rfl
  | (n, v) :: r, m, h => by
    unfold bindC
    rw [bindC_out fun w hw => h w (List.mem_cons_of_mem _ hw)]
    split
    · rfl
    · have : x ≠ n := by rintro rfl; exact h v List.mem_cons_self
      simp [this]
theorem bindL_get {kindOf : Str → Option NameKind} {x : Str} {v : Value} : ∀ {P : List Str} {vs : List Value} {i : Nat} {m : Str → Option Value}, P.Nodup → P[i]? = some x → vs[i]? = some v → kindOf x = some .local →
    bindL kindOf (P.zip vs) m x = some v
  | [], _, _, _, _, h, _, _ => by simp at h
  | _ :: _, [], _, _, _, _, h, _ => by simp at h
  | p :: P, w :: vs, 0, m, nd, h1, h2, hk => by
    simp at h1 h2; subst h1; subst h2
    show bindL kindOf ((p, w) :: P.zip vs) m p = _
    unfold bindL
    rw [bindL_out fun v hv => (List.nodup_cons.mp nd).1 (List.of_mem_zip hv).1, if_pos hk]
    simp
  | p :: P, w :: vs, i + 1, m, nd, h1, h2, hk => by
    show bindL kindOf ((p, w) :: P.zip vs) m x = _
    unfold bindL
    exact bindL_get (i := i) (List.nodup_cons.mp nd).2 (by simpa using h1) (by simpa using h2) hk
theorem bindC_get {kindOf : Str → Option NameKind} {x : Str} {v : Value} : ∀ {P : List Str} {vs : List Value} {i : Nat} {m : Str → Option Value}, P.Nodup → P[i]? = some x → vs[i]? = some v → kindOf x ≠ some .local →
    bindC kindOf (P.zip vs) m x = some v
  | [], _, _, _, _, h, _, _ => by simp at h
  | _ :: _, [], _, _, _, _, h, _ => by simp at h
  | p :: P, w :: vs, 0, m, nd, h1, h2, hk => by
    simp at h1 h2; subst h1; subst h2
    show bindC kindOf ((p, w) :: P.zip vs) m p = _
    unfold bindC
    rw [bindC_out fun v hv => (List.nodup_cons.mp nd).1 (List.of_mem_zip hv).1, if_neg hk]
    simp
  | p :: P, w :: vs, i + 1, m, nd, h1, h2, hk => by
    show bindC kindOf ((p, w) :: P.zip vs) m x = _
    unfold bindC
    exact bindC_get (i := i) (List.nodup_cons.mp nd).2 (by simpa using h1) (by simpa using h2) hk

/-- the names' values at the entry -/
def start (N : List Str) (vs : List V) : St := vs.map some ++ List.replicate (N.length - vs.length) none

/-- the context of a def's body, at its entry; an exception leaves the frame, then lies as CX says -/
def cxOf (CX : CXT) (P : Program) (w : World) (K : PySem.W.Frag) (mg : Str → Option Value) (base : Heap) (N : List Str) (qual : Str) (scope : Scope) (f : Addr) (cd : Value) (A : Around) (outer : List Env) (s : Shared) (H : Hp) (E : XK) : Cx where
  prog := P
  w := w
  K := K
  mg := mg
  base := base
  A := A.deeper (envOfC qual scope s.heap.objs.size f cd)
  N := N
  s_0 := s
  H_0 := H
  env := envOfC qual scope s.heap.objs.size f cd
  outer := outer
  stack := envOfC qual scope s.heap.objs.size f cd :: outer
  ex := []
  calm := true
  fn := fun _ => true
  pn := []
  xe := fun e s' => wpAny (model P w) (A.deeper (envOfC qual scope s.heap.objs.size f cd)) (leaving (envOfC qual scope s.heap.objs.size f cd) e) (fun _ s'' => CX outer H s E e s'') (fun e' s'' => CX outer H s E e' s'') s'

theorem cell_has {sc : Scope} {n : Nat} {x : Str} (h : sc.names.lookup x = some .cell) : ∃ c, (cellsFrom n sc.names []).lookup x = some c := by
  have q := PySem.W.cellsFrom_some sc.names n [] (.inl h)
  exact Option.isSome_iff_exists.mp q

theorem inv_start {CX : CXT} {P : Program} {w : World} {K : PySem.W.Frag} {mg : Str → Option Value} {base : Heap} {N ps : List Str} {qual : Str} {scope : Scope} {f : Addr} {cd : Value} {A : Around} {outer : List Env} {s s1 : Shared} {H : Hp} {E : XK} {us : List Value} {vs : List V}
    (S : FnScope N ps scope) (hd : A.handled = none) (e0 : Env0 P w K mg base A outer s H) (hl : vs.length = ps.length) (r : Vals vs us)
    (x : InCallC s s.heap.objs.size (bindL (envOfC qual scope s.heap.objs.size f cd).kindOf (ps.zip us) fun _ => none) (cellsFrom (s.heap.objs.size + 1) scope.names []) (bindC (envOfC qual scope s.heap.objs.size f cd).kindOf (ps.zip us) fun _ => none) s1) :
    Inv (cxOf CX P w K mg base N qual scope f cd A outer s H E) [] (start N vs) H s1 := by
  have hpl : ps.length ≤ N.length := by have := congrArg List.length S.pre; rw [List.length_take] at this; omega
  obtain ⟨h1, tk, rfl, hk⟩ := x.done
  have noA : ∀ b : Addr, b ∉ (cxOf CX P w K mg base N qual scope f cd A outer s H E).ex := fun b z => absurd (show b ∈ ([] : List Addr) from z) (by simp)
  refine ⟨⟨e0.mod, S.kind, rfl, rfl, Nat.le_refl _, fun y z c h1 h2 => ?_, fun y hy => ?_, fun y c _ h => ?_, fun _ => hd, Around.frames_deeper e0.frames, .inr ⟨rfl, rfl⟩, fun b z => absurd z (noA b), e0.bs, e0.bsz, fun b _ _ => noA b, fun b z => absurd z (noA b), e0.funs, e0.frf⟩,
    rfl, e0.bare, Un.kept hk, ⟨_, x.toInCall.ns, fun i y v h1 h2 h3 => ?_⟩, fun y c h => ⟨_, x.cell y c h⟩, e0.hok.fresh (Nat.le_refl _), fun y c h => ?_, fun p hp => absurd (show p ∈ ([] : List (Addr × Obj)) from hp) (by simp), e0.hok.kept hk, ?_⟩
  · exact name_of_addr x.apart (PySem.mem_of_lookup h1) (PySem.mem_of_lookup h2)
  · have hy : scope.names.lookup y = some .cell ∨ scope.names.lookup y = some .free := hy
    rcases hy with hy | hy
    · exact cell_has hy
    · exact absurd rfl (S.nofree _ (PySem.mem_of_lookup hy))
  · exact Nat.le_of_lt (x.above y c (PySem.mem_of_lookup h))
  · have hi : i < vs.length := by
      unfold start at h2
      by_cases hi : i < vs.length
      · exact hi
      · rw [List.getElem?_append_right (by simpa using hi)] at h2
        rw [List.getElem?_replicate] at h2
        split at h2 <;> cases h2
    have ha : vs[i]? = some v := by
      unfold start at h2
      rw [List.getElem?_append_left (by simpa using hi), List.getElem?_map] at h2
      cases e : vs[i]? with
      | none => rw [e] at h2; cases h2
      | some a => rw [e] at h2; cases h2; rfl
    obtain ⟨u, hu, rv⟩ := r.get ha
    have hp : ps[i]? = some y := by
      rw [← S.pre, List.getElem?_take_of_lt (by omega)]; exact h1
    have ndP : ps.Nodup := by rw [← S.pre]; exact S.nd.sublist (List.take_sublist _ _)
    refine ⟨u, rv, ?_⟩
    rcases S.par y (List.mem_of_getElem? hp) with k | k
    · exact .inl ⟨k, bindL_get ndP hp hu k⟩
    · obtain ⟨c, e⟩ := cell_has (n := s.heap.objs.size + 1) k
      refine .inr ⟨.inl k, c, e, ?_⟩
      have q := x.cell y c e
      rw [bindC_get ndP hp hu (by show scope.names.lookup y ≠ _; rw [k]; decide)] at q
      exact q
  · exact e0.hok.fresh (Nat.le_of_lt (x.above y c (PySem.mem_of_lookup h)))
  · unfold start
    show _ = N.length
    rw [List.length_append, List.length_map, List.length_replicate]
    omega

/-- THE RULE: a def (or a method) of the text, by its body. The body's reading t is chosen for each entry; it is run at the parameters' values -/
theorem fn_of {CX : CXT} {P : Program} {w : World} {K : PySem.W.Frag} {mg : Str → Option Value} {base : Heap} {k : Nat} {f : Addr} {name qual : Str} {params : Arguments} {body : List Stmt} {scope : Scope} {dV kV doc pm cdv ct oc : Value} {an od : Option Addr}
    {osl : Array (Option Value)} {N ps : List Str} {sp : Sp} (lk : K.lookup f = some ⟨oc, od, .func (PySem.W.fnOf name qual params body scope dV kV doc pm an cdv ct), osl⟩) (hcd : PySem.W.codeIn K cdv qual = true) (S : FnScope N ps scope)
    (len : ∀ vs H Q E, sp vs H Q E → vs.length = ps.length)
    (hbody : ∀ (A : Around) (outer : List Env) (s : Shared) (H : Hp) (vs : List V) (Q : VK) (E : XK), Room k (A.deeper (envOfC qual scope s.heap.objs.size f cdv)) → sp vs H Q E →
      ∃ t, PSs (cxOf CX P w K mg base N qual scope f cdv A outer s H E) body t ∧ t { nx := fun _ H' => Q .non H', rt := Q } (start N vs) H) :
    FnOk P w K mg base CX (k + 1) f (PySem.W.fnOf name qual params body scope dV kV doc pm an cdv ct) ps sp := by
  refine ⟨len, fun A outer s H args us vs Q E hr e0 hb r hsp => ?_⟩
  have hl := len _ _ _ _ hsp
  have KX : K.In s.heap := e0.mod.kin.keeps fun b o e => (e0.bs b o e).1
  have lim : s.heap.NoLimit := e0.mod.nolimit.keeps fun b o e => (e0.bs b o e).1
  have hkind : ∀ y ∈ ps.zip us, scope.names.lookup y.1 = some .local ∨ (scope.names.lookup y.1 = some .cell ∧ ((cellsFrom (s.heap.objs.size + 1) scope.names []).lookup y.1).isSome = true) := fun ⟨n, v⟩ hy => by
    rcases S.par n (List.of_mem_zip hy).1 with q | q
    · exact .inl q
    · exact .inr ⟨q, PySem.W.cellsFrom_some _ _ _ (.inl q)⟩
  refine codeAny_call_function hr.depth (KX _ _ lk) rfl S.co S.gen rfl (PySem.W.codeRec_of KX hcd) (hb _ _ _ _ ?_)
  refine wpAny_newFunctionEnv_cells S.kind hkind fun env he s1 x => ?_
  subst he
  refine ⟨lim.keeps x.toInCall.keep, codeAny_func ?_⟩
  obtain ⟨t, ht, hq⟩ := hbody A outer s H vs Q E (hr.deeper _) hsp
  have I : Inv (cxOf CX P w K mg base N qual scope f cdv A outer s H E) [] (start N vs) H s1 := inv_start S hr.hd e0 hl r x
  refine wpAny_mono (ht [] s1 (start N vs) H _ I hq) (fun fl s' hs => ?_) fun e s' hs => hs
  have fin : ∀ {σ' : St} {H' : Hp} {v : V} {u : Value}, Inv (cxOf CX P w K mg base N qual scope f cdv A outer s H E) [] σ' H' s' → RelV v u → Q v H' → CE outer P w H s Q u s' :=
    fun {σ' H' v u} J rv q => ⟨v, H', J.os, J.bare, J.base, J.hok, rv, q⟩
  cases fl with
  | ret u =>
    obtain ⟨v, σ', H', J, rv, q⟩ := hs
    exact fin J rv q
  | next =>
    obtain ⟨σ', H', J, q⟩ := hs
    exact fin (v := V.non) (u := Value.none) J rfl q
  | brk =>
    obtain ⟨_, _, _, q⟩ := hs
    exact False.elim q
  | cont =>
    obtain ⟨_, _, _, q⟩ := hs
    exact False.elim q
end L2

namespace L2
open PySem PySem.Spec PyProof.Rows
section
variable {X : Cx} {x : Str} {p pos : Pos} {e : Expr} {es : List Expr} {t : TA} {id T : String} {r : List V → Hp → VK → Prop}

def tCB (r : List V → Hp → VK → Prop) (t : TA) : TE := fun σ H Q => t σ H fun vs H1 => r vs H1 Q
/-- f(e, ..), f a built-in function -/
theorem pe_callB (hc : CallR X (.builtin id) r) (hg : Gl X x) (hm : X.mg x = none) (hv : bootBuiltins x = some (.builtin id)) (ha : PA X (e :: es) t) (hn : x ≠ "__name__" := by decide) (hdb : (x == ("__debug__" : Str)) = false := by decide)
    (he : starEach (e :: es) X.env = (false, eval e X.env) :: starEach es X.env := by rfl) (hpl : (backTo pos (starEach es X.env)).any (·.1) = false := by rfl) : PE X (.Call (.Name x p) (e :: es) [] pos) (tCB r t) := by
  intro pins s σ H Q I h
  refine wpAny_Call_Name_kw (ld_blt I hg hm hv ?_ hn hdb)
  exact PyProof.Rows.callWith_builtin1 (thn (ha pos pins s σ H _ I h) fun us s1 ⟨vs, H1, I1, r1, q1⟩ => hc pins s1 σ H1 vs us Q I1 r1 q1) he hpl
/-- T(e, ..), T a built-in type -/
theorem pe_callTy (hc : CallR X (.type T) r) (hg : Gl X x) (hm : X.mg x = none) (hv : bootBuiltins x = some (.type T)) (ha : PA X (e :: es) t) (hn : x ≠ "__name__" := by decide) (hdb : (x == ("__debug__" : Str)) = false := by decide)
    (he : starEach (e :: es) X.env = (false, eval e X.env) :: starEach es X.env := by rfl) (hpl : (backTo pos (starEach es X.env)).any (·.1) = false := by rfl) : PE X (.Call (.Name x p) (e :: es) [] pos) (tCB r t) := by
  intro pins s σ H Q I h
  refine wpAny_Call_Name_kw (ld_blt I hg hm hv ?_ hn hdb)
  exact PyProof.Rows.callWith_type1 (thn (ha pos pins s σ H _ I h) fun us s1 ⟨vs, H1, I1, r1, q1⟩ => hc pins s1 σ H1 vs us Q I1 r1 q1) he hpl
end
end L2

namespace HT
open PySem PyProof.Rows

/-- t < u of tuples of ints -/
def lexLt : List Int → List Int → Bool
  | [], [] => false
  | [], _ :: _ => true
  | _ :: _, [] => false
  | x :: xs, y :: ys => if x = y then lexLt xs ys else decide (x < y)
section
open PySem.SeqAt
open PySem.AutoSeq1 (wpAny_loadPart')
open PySem.MeetsSeq PySem.MeetsSeq2 PySem.MeetsSeq3

end

section
variable {prog : Program} {w : World} {A : Around} {E : Value → Shared → Prop} {s : Shared}

/-! ### t[a:b], not the whole -/
/-- a slice's bound as a place among n (d where it is left out) -/
def sIx (n d : Nat) : Option Int → Nat
  | none => d
  | some v => if v < 0 then (v + (n : Int)).toNat else min v.toNat n
theorem sIx_none (n d : Nat) : sIx n d none = d := rfl
theorem sIx_nat (n d k : Nat) : sIx n d (some (k : Int)) = min k n := by
  show (if (k : Int) < 0 then ((k : Int) + (n : Int)).toNat else min (k : Int).toNat n) = min k n
  rw [if_neg (by omega), Int.toNat_natCast]
theorem sIx_le (n d : Nat) (hd : d ≤ n) (o : Option Int) : sIx n d o ≤ n := by
  cases o with
  | none => exact hd
  | some v =>
    show (if v < 0 then (v + (n : Int)).toNat else min v.toNat n) ≤ n
    by_cases hv : v < 0
    · rw [if_pos hv]; omega
    · rw [if_neg hv]; exact Nat.min_le_right _ _
end
end HT

namespace L2
open PySem PySem.Spec PyProof.Rows

/-! ### the parts of a slice -/
abbrev TO := St → Hp → (Option Int → Hp → Prop) → Prop
/-- a slice's part (left out, or an int) -/
def PO (X : Cx) (e : Option Expr) (t : TO) : Prop :=
  ∀ (pins : List (Addr × Obj)) (s : Shared) (σ : St) (H : Hp) (Q : Option Int → Hp → Prop), Inv X pins σ H s → t σ H Q →
    wpAny (model X.prog X.w) X.A (evalPart e X.env) (fun u s' => ∃ o H', Inv X pins σ H' s' ∧ IsPart u o ∧ Q o H') X.xe s
def tNoPart : TO := fun _ H Q => Q none H
def tPart (t : TE) : TO := fun σ H Q => t σ H fun x H1 => ∃ i, x = .int i ∧ Q (some i) H1

section
variable {X : Cx} {e : Expr} {te : TE} {lo hi : Option Expr} {tl th : TO} {pos p2 : Pos}

theorem po_none : PO X none tNoPart := by
  intro pins s σ H Q I h
  rw [evalPart_none]
  exact wpAny_pure ⟨none, H, I, .none, h⟩
theorem po_some (h : PE X e te) : PO X (some e) (tPart te) := by
  intro pins s σ H Q I hw
  rw [evalPart_some]
  refine thn (h pins s σ H _ I hw) fun u s1 ⟨x, H1, I1, r1, q1⟩ => ?_
  obtain ⟨i, rfl, q⟩ := q1
  obtain ⟨t, rfl⟩ := r1
  exact ⟨some i, H1, I1, .int i t, q⟩

/-- what a slice of a value is, by values: the slice object stands at sl -/
def SlR (X : Cx) (r : V → Option Int → Option Int → Hp → VK → Prop) : Prop :=
  ∀ (pins : List (Addr × Obj)) (s : Shared) (σ : St) (H : Hp) (x : V) (v vl vu : Value) (lo hi : Option Int) (sl : Addr) (Q : VK), Inv X pins σ H s → RelV x v → s.heap.IsSliceOf sl vl vu .none → IsPart vl lo → IsPart vu hi → r x lo hi H Q →
    ∃ T id, typeLookup (.type T) "__getitem__" = pure (some (.builtin id)) ∧ s.TypeIs v T ∧ wpAny (model X.prog X.w) X.A (getItem v (.ref sl)) (EP X pins σ Q) X.xe s
def tSl (r : V → Option Int → Option Int → Hp → VK → Prop) (te : TE) (tl th : TO) : TE := fun σ H Q => te σ H fun x H1 => tl σ H1 fun l H2 => th σ H2 fun u H3 => r x l u H3 Q
/-- a[lo:hi], any a -/
theorem pe_slice {r : V → Option Int → Option Int → Hp → VK → Prop} (hr : SlR X r) (he : PE X e te) (hl : PO X lo tl) (hu : PO X hi th) : PE X (.Subscript e (.Slice lo hi none p2) pos) (tSl r te tl th) := by
  intro pins s σ H Q I h
  refine Subscript_ (thn (he pins s σ H _ I h) fun v s1 ⟨x, H1, I1, r1, q1⟩ => ?_)
  refine wpAny_Slice (thn (hl pins s1 σ H1 _ I1 q1) fun vl s2 ⟨l, H2, I2, pl, q2⟩ => thn (hu pins s2 σ H2 _ I2 q2) fun vu s3 ⟨u, H3, I3, pu, q3⟩ => ?_)
  rw [evalPart_none]
  refine wpAny_pure ?_
  have I4 : Inv X pins σ H3 { s3 with heap := s3.heap.push { cls := .type "slice", data := .fields #[vl, vu, .none] } } := I3.kept (t' := s3.toks) fun b ob q => Heap.get?_push_of_some _ q
  obtain ⟨T, id, hT, ht, hg⟩ := hr pins { s3 with heap := s3.heap.push { cls := .type "slice", data := .fields #[vl, vu, .none] } } σ H3 x v vl vu l u s3.heap.objs.size Q I4 r1 (Heap.IsSliceOf.new ..) pl pu q3
  show wpAny (model X.prog X.w) X.A (subscriptTail e (.Slice lo hi none p2) v (.ref s3.heap.objs.size)) (EP X pins σ Q) X.xe { s3 with heap := s3.heap.push { cls := .type "slice", data := .fields #[vl, vu, .none] } }
  exact tail_any (ops := [.ref s3.heap.objs.size, v]) ht hT hg (by with_unfolding_all rfl)

/-- the items of xs[lo:hi] -/
def cutV (xs : List V) (lo hi : Option Int) : List V := (xs.drop (HT.sIx xs.length 0 lo)).take (HT.sIx xs.length xs.length hi - HT.sIx xs.length 0 lo)
theorem cutV_length (xs : List V) (lo hi : Option Int) : (cutV xs lo hi).length ≤ xs.length := by
  unfold cutV
  rw [List.length_take, List.length_drop]
  omega
/-! ### t < u, t + u -/
end
end L2

namespace L2
open PySem PySem.Spec PyProof.Rows

/-! ### places -/
/-- the place that an index of any sign means -/
def ixN (n : Nat) (i : Int) : Option Nat := if 0 ≤ i then (if i < n then some i.toNat else none) else if -(n : Int) ≤ i then some (i + n).toNat else none
def atI {α : Type} (xs : List α) (i : Int) : Option α := (ixN xs.length i).bind fun j => xs[j]?
theorem ixN_seq {n : Nat} {i : Int} {j : Nat} (h : ixN n i = some j) : seqIndex? i n = some j ∧ j < n ∧ -(n : Int) ≤ i ∧ i < n := by
  unfold ixN at h
  by_cases h0 : 0 ≤ i
  · rw [if_pos h0] at h
    by_cases h1 : i < n
    · rw [if_pos h1] at h
      have e : i.toNat = j := Option.some.inj h
      exact ⟨by rw [seqIndex_of h0 h1, e], by omega, by omega, h1⟩
    · rw [if_neg h1] at h; cases h
  · rw [if_neg h0] at h
    by_cases h1 : -(n : Int) ≤ i
    · rw [if_pos h1] at h
      have e : (i + n).toNat = j := Option.some.inj h
      exact ⟨by rw [seqIndex_neg (by omega) h1, e], by omega, h1, by omega⟩
    · rw [if_neg h1] at h; cases h
theorem atI_get {α : Type} {xs : List α} {i : Int} {v : α} (h : atI xs i = some v) : ∃ j, seqIndex? i xs.length = some j ∧ xs[j]? = some v ∧ j < xs.length ∧ -(xs.length : Int) ≤ i ∧ i < xs.length := by
  unfold atI at h
  cases e : ixN xs.length i with
  | none => rw [e] at h; cases h
  | some j =>
    rw [e] at h
    obtain ⟨h1, h2, h3, h4⟩ := ixN_seq e
    exact ⟨j, h1, h, h2, h3, h4⟩
theorem atI_nat {α : Type} {xs : List α} {j : Nat} {v : α} (h : xs[j]? = some v) : atI xs (j : Int) = some v := by
  have hj : j < xs.length := (List.getElem?_eq_some_iff.mp h).1
  have e : ixN xs.length (j : Int) = some j := by
    unfold ixN
    rw [if_pos (by omega), if_pos (by omega)]; simp
  unfold atI; rw [e]; exact h
theorem atI_last {α : Type} (xs : List α) (v : α) : atI (xs ++ [v]) (-1) = some v := by
  have hl : (xs ++ [v]).length = xs.length + 1 := by simp
  have e : ixN (xs ++ [v]).length (-1) = some xs.length := by
    unfold ixN
    rw [hl, if_neg (by decide), if_pos (by omega)]
    congr 1
    omega
  unfold atI
  rw [e]
  show (xs ++ [v])[xs.length]? = some v
  simp

/-! ### what may be subscripted -/
/-- what stands as an index of a plain subscript -/
def PlainIx (b : Expr) : Prop := ∀ o i, subscripted b false o i = operate [o, i] (getItem o i)
/-- a subscript by values -/
def IxR (X : Cx) (r : R2) : Prop :=
  ∀ (value slice : Expr) (pins : List (Addr × Obj)) (s : Shared) (σ : St) (H : Hp) (x y : V) (v u : Value) (Q : VK), Inv X pins σ H s → RelV x v → RelV y u → r x y H Q →
    subscripted slice false v u = operate [v, u] (getItem v u) → wpAny (model X.prog X.w) X.A (subscriptTail value slice v u) (EP X pins σ Q) X.xe s
/-- a call of a builtin's method by values: the receiver, the arguments -/
def MtR (X : Cx) (id : String) (r : V → List V → Hp → VK → Prop) : Prop :=
  ∀ (pins : List (Addr × Obj)) (s : Shared) (σ : St) (H : Hp) (x : V) (xs : List V) (v : Value) (us : List Value) (Q : VK), Inv X pins σ H s → RelV x v → Vals xs us → r x xs H Q →
    wpAny (model X.prog X.w) X.A (call (.builtin id) (v :: us)) (EP X pins σ Q) X.xe s
section
variable {X : Cx} {a b : Expr} {ta tb : TE} {pos : Pos}
theorem IxR.or {r r' : R2} (h : IxR X r) (h' : IxR X r') : IxR X (fun x y H Q => r x y H Q ∨ r' x y H Q) := by
  intro value slice pins s σ H x y v u Q I rx ry q hs
  rcases q with q | q
  · exact h value slice pins s σ H x y v u Q I rx ry q hs
  · exact h' value slice pins s σ H x y v u Q I rx ry q hs
/-- a[b] -/
theorem pe_ix {r : R2} (hr : IxR X r) (ha : PE X a ta) (hb : PE X b tb) (hs : PlainIx b) : PE X (.Subscript a b pos) (tOp r ta tb) := by
  intro pins s σ H Q I h
  exact Subscript_ (binT ha hb I h fun v u s2 x y H2 I2 rx ry q => hr a b pins s2 σ H2 x y v u Q I2 rx ry q (hs _ _))

def rIxL (K : PySem.W.Frag) : R2 := fun x y H Q => ∃ p xs i v, x = .ref p ∧ y = .int i ∧ SqL K H p xs ∧ atI xs i = some v ∧ Q v H
def rIxT (K : PySem.W.Frag) : R2 := fun x y H Q => ∃ p xs i v, x = .ref p ∧ y = .int i ∧ SqT K H p xs ∧ atI xs i = some v ∧ Q v H
def rIxS : R2 := fun x y H Q => ∃ z i c, x = .str z ∧ y = .int i ∧ z.length ≤ sizeLine ∧ atI z.cps.toList i = some c ∧ Q (.str ⟨#[c]⟩) H
theorem ix_list : IxR X (rIxL X.K) := by
  intro value slice pins s σ H x y v u Q I rx ry h hs
  obtain ⟨p, xs, i, z, rfl, rfl, hq, he, q⟩ := h
  cases rx
  obtain ⟨t, rfl⟩ := ry
  obtain ⟨its, r, pl, hz⟩ := I.list hq
  obtain ⟨j, h1, h2, h3, h4, h5⟩ := atI_get he
  obtain ⟨w, ew, rw'⟩ := r.get h2
  have hl := r.length
  have hn := line63
  have fin : EP X pins σ Q w s := ⟨z, H, I, rw', q⟩
  by_cases h0 : 0 ≤ i
  · have hj : i.toNat = j := by
      rw [seqIndex_of h0 h5] at h1
      exact Option.some.inj h1
    exact item_listR pl.isList h0 (by omega) (by rw [hj]; simpa using ew) fin hs
  · have hj : (i + (its.toArray.size : Int)).toNat = j := by
      rw [seqIndex_neg (by omega) h4] at h1
      rw [List.size_toArray, ← hl]
      exact Option.some.inj h1
    exact subscriptTail_builtinR (x := w) pl.isList.typeIs slot_list_getitem.lookup
      (wpAny_getItem_list_neg (Q := fun r s' => r = w ∧ EP X pins σ Q r s') pl.isList (by omega) (by rw [List.size_toArray] <;> omega) (by omega) (by rw [hj]; simpa using ew) ⟨rfl, fin⟩) hs
theorem ix_tup : IxR X (rIxT X.K) := by
  intro value slice pins s σ H x y v u Q I rx ry h hs
  obtain ⟨p, xs, i, z, rfl, rfl, hq, he, q⟩ := h
  cases rx
  obtain ⟨t, rfl⟩ := ry
  obtain ⟨its, r, pl, hz⟩ := I.tuple hq
  obtain ⟨j, h1, h2, h3, h4, h5⟩ := atI_get he
  obtain ⟨w, ew, rw'⟩ := r.get h2
  have hl := r.length
  have hn := line63
  have fin : EP X pins σ Q w s := ⟨z, H, I, rw', q⟩
  exact subscriptTail_builtinR (x := w) pl.typeIs slot_tuple_getitem.lookup
    (getItem_tuple (j := j) (Q := fun r s' => r = w ∧ EP X pins σ Q r s') pl (by omega) (by omega) (by rw [List.size_toArray, ← hl]; exact h1) (by simpa using ew) ⟨rfl, fin⟩) hs
theorem ix_str : IxR X rIxS := by
  intro value slice pins s σ H x y v u Q I rx ry h hs
  obtain ⟨z, i, c, rfl, rfl, hz, he, q⟩ := h
  obtain ⟨t, rfl⟩ := rx
  obtain ⟨t', rfl⟩ := ry
  obtain ⟨j, h1, h2, h3, h4, h5⟩ := atI_get he
  have hl : z.cps.toList.length = z.length := by simp [Str.length]
  rw [hl] at h1 h4 h5
  have hn := line63
  exact tail_any (typeIs_str s z t) slot_str_getitem.lookup (getItem_str (c := c) (by
    have e1 : decide (i < -(2 ^ 63 : Int)) = false := decide_eq_false (by omega)
    have e2 : decide (i ≥ 2 ^ 63) = false := decide_eq_false (by omega)
    rw [e1, e2, Bool.or_false]) (by rw [h1]; simpa using h2) ⟨.str ⟨#[c]⟩, H, I.tok _, ⟨_, rfl⟩, q⟩) hs
/-- list, tuple or str -/
def rIx (K : PySem.W.Frag) : R2 := fun x y H Q => rIxL K x y H Q ∨ rIxT K x y H Q ∨ rIxS x y H Q
theorem ix_seq : IxR X (rIx X.K) := ix_list.or (ix_tup.or ix_str)

/-! ### xs[i] = v, any sign -/
/-- the list's object behind a store -/
theorem mapSeq_set (its : List Value) (n j : Nat) (u : Value) : Obj.mapSeq (·.setIfInBounds j u) { cls := .type "list", data := .seq its.toArray n } = { cls := .type "list", data := .seq (its.set j u).toArray n } := by
  simp [Obj.mapSeq]
theorem Inv.lst {pins : List (Addr × Obj)} {σ : St} {H : Hp} {s : Shared} {p : Addr} {xs : List V} (I : Inv X pins σ H s) (h : H p = some (.lst xs)) :
    ∃ (its : List Value) (n : Nat), Vals xs its ∧ s.heap.get? p = some { cls := .type "list", data := .seq its.toArray n } ∧ xs.length ≤ sizeLine := by
  obtain ⟨z, its, n, r, e⟩ := I.hok p _ h
  exact ⟨its, n, r, e, z⟩
/-- the list at p is written by an update of its object -/
theorem Inv.lstUpd {pins : List (Addr × Obj)} {σ : St} {H : Hp} {s : Shared} {p : Addr} {xs ys : List V} {its its' : List Value} {n n' : Nat} {f : Obj → Obj} (I : Inv X pins σ H s) (h : H p = some (.lst xs))
    (ho : s.heap.get? p = some { cls := .type "list", data := .seq its.toArray n }) (hf : f { cls := .type "list", data := .seq its.toArray n } = { cls := .type "list", data := .seq its'.toArray n' }) (r : Vals ys its') (hz : ys.length ≤ sizeLine) (t : Nat) :
    Inv X pins σ (upd H p (.lst ys)) { s with heap := s.heap.update p f, toks := t } := by
  have e : (s.heap.update p f).get? p = some { cls := .type "list", data := .seq its'.toArray n' } := by
    rw [Heap.get?_update_self f ho (by rw [hf] <;> rfl), hf]
  refine I.write (x := p) (e := p) (by rw [h]; trivial) (.inl rfl) (fun b u hb q => (Heap.get?_update_other _ _ (Ne.symm hb)).trans q) ⟨_, e⟩ ?_
  exact ⟨hz, its', n', r, e⟩
def rSetL : V → V → V → Hp → (Hp → Prop) → Prop := fun o i v H Q => ∃ p xs k j, o = .ref p ∧ i = .int k ∧ H p = some (.lst xs) ∧ ixN xs.length k = some j ∧ Q (upd H p (.lst (xs.set j v)))
theorem set_list : PSet X rSetL := by
  intro pins s σ H o i v ov iv u Q I ro ri rv h
  obtain ⟨p, xs, k, j, rfl, rfl, hp, hj, q⟩ := h
  cases ro
  obtain ⟨t, rfl⟩ := ri
  obtain ⟨its, n, r, ho, hz⟩ := I.lst hp
  obtain ⟨h1, h2, h3, h4⟩ := ixN_seq hj
  have hl := r.length
  have hn := line63
  have I' : Inv X pins σ (upd H p (.lst (xs.set j v))) { s with heap := s.heap.update p (Obj.mapSeq (·.setIfInBounds j u)) } :=
    I.lstUpd hp ho (mapSeq_set its n j u) (r.set rv j) (by rw [List.length_set]; exact hz) s.toks
  by_cases h0 : 0 ≤ k
  · have hk : k.toNat = j := by
      rw [seqIndex_of h0 h4] at h1
      exact Option.some.inj h1
    exact PySem.W.ki_setAt ho h0 (by omega) (by rw [List.size_toArray, ← hl]; exact h4) (by rw [hk]; exact ⟨_, I', q⟩)
  · have hk : (k + (its.toArray.size : Int)).toNat = j := by
      rw [seqIndex_neg (by omega) h3] at h1
      rw [List.size_toArray, ← hl]
      exact Option.some.inj h1
    exact PySem.W.ki_setBack ho (by omega) (by rw [List.size_toArray, ← hl]; exact h3) (by omega) (by rw [hk]; exact ⟨_, I', q⟩)

/-! ### slices -/
theorem slice_bounds (lo hi : Option Int) (n : Nat) : (sliceBounds lo hi none n).1 = ((HT.sIx n 0 lo : Nat) : Int) ∧ (sliceBounds lo hi none n).2.1 = ((HT.sIx n n hi : Nat) : Int) ∧ (sliceBounds lo hi none n).2.2 = 1 := by
  refine ⟨?_, ?_, rfl⟩
  · cases lo with
    | none => simp [sliceBounds, HT.sIx]
    | some i =>
      simp only [sliceBounds, HT.sIx, Option.getD_none, show (1 : Int) > 0 by decide, if_true]
      by_cases h : i < 0
      · simp only [h, if_true] <;> omega
      · simp only [h, if_false] <;> omega
  · cases hi with
    | none => simp [sliceBounds, HT.sIx]
    | some i =>
      simp only [sliceBounds, HT.sIx, Option.getD_none, show (1 : Int) > 0 by decide, if_true]
      by_cases h : i < 0
      · simp only [h, if_true] <;> omega
      · simp only [h, if_false] <;> omega
theorem slicePick_cut (its : List Value) (lo hi : Option Int) : slicePick its.toArray lo hi none = ((its.drop (HT.sIx its.length 0 lo)).take (HT.sIx its.length its.length hi - HT.sIx its.length 0 lo)).toArray := by
  obtain ⟨h1, h2, h3⟩ := slice_bounds lo hi its.toArray.size
  unfold slicePick
  rw [h1, h2, h3]
  simp only [sliceRange_one, pick_run, List.size_toArray] <;> rfl
/-- xs[lo:hi] of a list: a new list -/
def rSlL (K : PySem.W.Frag) : V → Option Int → Option Int → Hp → VK → Prop := fun x lo hi H Q => ∃ a xs, x = .ref a ∧ SqL K H a xs ∧ ∀ p, H p = none → Q (.ref p) (upd H p (.lst (cutV xs lo hi)))
theorem sl_list : SlR X (rSlL X.K) := by
  intro pins s σ H x v vl vu lo hi sl Q I rx hs pl pu h
  obtain ⟨a, xs, rfl, hx, q⟩ := h
  cases rx
  obtain ⟨its, r, ht, hz⟩ := I.list hx
  have hlen := r.length
  refine ⟨"list", _, slot_list_getitem.lookup, ht.isList.typeIs, ?_⟩
  refine wpAny_getItem_list_slice ht.isList hs pl pu .none (by simp) ?_ (by rw [List.size_toArray] <;> omega)
  rw [slicePick_cut, ← hlen]
  refine ⟨.ref s.heap.objs.size, _, I.laid (t' := s.toks) (o := .lst (cutV xs lo hi)) (fun b ob q => Heap.get?_push_of_some _ q) (Nat.le_refl _) ?_, rfl, q _ (I.hok.fresh (Nat.le_refl _))⟩
  exact ⟨Nat.le_trans (cutV_length xs lo hi) hz, _, 0, (r.drop (HT.sIx xs.length 0 lo)).take (HT.sIx xs.length xs.length hi - HT.sIx xs.length 0 lo), Heap.get?_push_size _ rfl⟩

/-! ### in, not in: flat items -/
def flatV : V → Bool
  | .non => true
  | .bl _ => true
  | .int _ => true
  | .str _ => true
  | _ => false
/-- == of flat values -/
def eqV : V → V → Bool
  | .non, .non => true
  | .bl a, .bl b => a == b
  | .bl a, .int b => (if a then 1 else 0) == b
  | .int a, .bl b => a == (if b then 1 else 0)
  | .int a, .int b => a == b
  | .str a, .str b => a == b
  | _, _ => false
theorem eqAt_V {A : Around} {s : Shared} {y x : V} {u v : Value} (ry : RelV y u) (rx : RelV x v) (fy : flatV y = true) (fx : flatV x = true) : SeqAt.EqAt A s u v (eqV y x) := by
  cases y with
  | non =>
    cases ry
    cases x with
    | non => cases rx; exact SeqAt.EqAt.same _
    | bl b => cases rx; exact SeqAt.EqAt.none_bool b
    | int b => obtain ⟨t, rfl⟩ := rx; exact SeqAt.EqAt.none_int b t
    | str b => obtain ⟨t, rfl⟩ := rx; exact SeqAt.EqAt.none_str b t
    | _ => exact absurd (show false = true from fx) Bool.false_ne_true
  | bl a =>
    cases ry
    cases x with
    | non => cases rx; exact SeqAt.EqAt.bool_none a
    | bl b => cases rx; exact SeqAt.EqAt.bool_bool a b
    | int b => obtain ⟨t, rfl⟩ := rx; exact SeqAt.EqAt.bool_int a b t
    | str b => obtain ⟨t, rfl⟩ := rx; exact SeqAt.EqAt.bool_str a b t
    | _ => exact absurd (show false = true from fx) Bool.false_ne_true
  | int a =>
    obtain ⟨t', rfl⟩ := ry
    cases x with
    | non => cases rx; exact SeqAt.EqAt.int_none a t'
    | bl b => cases rx; exact SeqAt.EqAt.int_bool a t' b
    | int b => obtain ⟨t, rfl⟩ := rx; exact SeqAt.EqAt.int_int a t' b t
    | str b => obtain ⟨t, rfl⟩ := rx; exact SeqAt.EqAt.int_str a t' b t
    | _ => exact absurd (show false = true from fx) Bool.false_ne_true
  | str a =>
    obtain ⟨t', rfl⟩ := ry
    cases x with
    | non => cases rx; exact SeqAt.EqAt.str_none a t'
    | bl b => cases rx; exact SeqAt.EqAt.str_bool a t' b
    | int b => obtain ⟨t, rfl⟩ := rx; exact SeqAt.EqAt.str_int a t' b t
    | str b => obtain ⟨t, rfl⟩ := rx; exact SeqAt.EqAt.str_str a t' b t
    | _ => exact absurd (show false = true from fx) Bool.false_ne_true
  | _ => exact absurd (show false = true from fy) Bool.false_ne_true
/-- the items' answers, read off the values (a value's own answer does not lean on its token) -/
def eqU (x : V) (u : Value) : Bool := match u with
  | .none => eqV .non x
  | .bool b => eqV (.bl b) x
  | .int i _ => eqV (.int i) x
  | .str z _ => eqV (.str z) x
  | _ => false
theorem eqU_of {x y : V} {u : Value} (r : RelV y u) (f : flatV y = true) : eqU x u = eqV y x := by
  cases y with
  | non => cases r; rfl
  | bl b => cases r; rfl
  | int i => obtain ⟨t, rfl⟩ := r; rfl
  | str z => obtain ⟨t, rfl⟩ := r; rfl
  | _ => exact absurd (show false = true from f) Bool.false_ne_true
theorem mem_eqAt {A : Around} {s : Shared} {x : V} {v : Value} (rx : RelV x v) (fx : flatV x = true) : ∀ {xs : List V} {us : List Value}, Vals xs us → xs.all flatV = true → ∀ u ∈ us, SeqAt.EqAt A s u v (eqU x u)
  | _, _, .nil, _ => fun u hu => by cases hu
  | y :: xs, u :: us, .cons r t, f => fun u' hu => by
    rw [List.all_cons, Bool.and_eq_true] at f
    rcases List.mem_cons.mp hu with rfl | hu
    · rw [eqU_of r f.1]; exact eqAt_V r rx f.1 fx
    · exact mem_eqAt rx fx t f.2 u' hu
/-! ### len, list(x), tuple(x) of any list or tuple that is read -/
theorem call_len_seq : CallR X (.builtin "len") (fun xs H Q => ∃ p ys, xs = [.ref p] ∧ (SqL X.K H p ys ∨ SqT X.K H p ys) ∧ Q (.int ys.length) H) := by
  intro pins s σ H xs us Q I r h
  obtain ⟨p, ys, rfl, hq, q⟩ := h
  obtain ⟨u, rfl, rx⟩ := vals1 r
  cases rx
  have hn := line63
  rcases hq with hq | hq
  · obtain ⟨its, r', pl, hz⟩ := I.list hq
    have hlen := r'.length
    exact Calls.call_len_list pl.isList (by simp only [List.size_toArray] <;> omega) ⟨.int ys.length, H, I.tok _, ⟨s.toks + 1, by rw [List.size_toArray, hlen]⟩, q⟩
  · obtain ⟨its, r', pl, hz⟩ := I.tuple hq
    have hlen := r'.length
    exact len_tuple pl (by simp only [List.size_toArray] <;> omega) ⟨.int ys.length, H, I.tok _, ⟨s.toks + 1, by rw [List.size_toArray, hlen]⟩, q⟩
theorem call_len_str : CallR X (.builtin "len") (fun xs H Q => ∃ z, xs = [.str z] ∧ z.length ≤ sizeLine ∧ Q (.int z.length) H) := by
  intro pins s σ H xs us Q I r h
  obtain ⟨z, rfl, hz, q⟩ := h
  obtain ⟨u, rfl, t, rfl⟩ := vals1 r
  have hn := line63
  exact len_str (by omega) ⟨.int z.length, H, I.tok _, ⟨_, rfl⟩, q⟩
theorem call_list_of : CallR X (.type "list") (fun xs H Q => ∃ p ys, xs = [.ref p] ∧ (SqL X.K H p ys ∨ SqT X.K H p ys) ∧ ∀ l, H l = none → Q (.ref l) (upd H l (.lst ys))) := by
  intro pins s σ H xs us Q I r h
  obtain ⟨p, ys, rfl, hq, q⟩ := h
  obtain ⟨u, rfl, rx⟩ := vals1 r
  cases rx
  have fin : ∀ (its : List Value), Vals ys its → ys.length ≤ sizeLine → ∀ (h' : Heap) (c' : Nat), (∀ b o', s.heap.get? b = some o' → h'.get? b = some o') →
      h'.get? s.heap.objs.size = some { cls := .type "list", dict := none, data := .seq its.toArray c', slots := #[] } → EP X pins σ Q (.ref s.heap.objs.size) { s with heap := h' } := fun its r' hz h' c' kp e =>
    ⟨.ref s.heap.objs.size, _, I.laid (t' := s.toks) kp (Nat.le_refl _) (show ObjOk X.prog X.w _ h' _ (.lst ys) from ⟨hz, its, c', r', e⟩), rfl, q _ (I.hok.fresh (Nat.le_refl _))⟩
  rcases hq with hq | hq
  · obtain ⟨its, r', pl, hz⟩ := I.list hq
    have hlen := r'.length
    obtain ⟨o, ho, hc, n, hd⟩ := pl.isList
    exact call_list_seq p (.inl rfl) ho hc hd (fun h' c' kp e => fin its r' hz h' c' kp e) (by simp only [List.size_toArray] <;> omega)
  · obtain ⟨its, r', pl, hz⟩ := I.tuple hq
    have hlen := r'.length
    obtain ⟨o, ho, hc, n, hd⟩ := pl
    exact call_list_seq p (.inr rfl) ho hc hd (fun h' c' kp e => fin its r' hz h' c' kp e) (by simp only [List.size_toArray] <;> omega)
theorem call_tuple_of : CallR X (.type "tuple") (fun xs H Q => ∃ p ys, xs = [.ref p] ∧ ((SqL X.K H p ys ∧ ∀ l, H l = none → Q (.ref l) (upd H l (.tup ys))) ∨ (SqT X.K H p ys ∧ Q (.ref p) H))) := by
  intro pins s σ H xs us Q I r h
  obtain ⟨p, ys, rfl, h⟩ := h
  obtain ⟨u, rfl, rx⟩ := vals1 r
  cases rx
  rcases h with ⟨hq, q⟩ | ⟨hq, q⟩
  · obtain ⟨its, r', pl, hz⟩ := I.list hq
    have hlen := r'.length
    refine call_tuple_list pl.isList (fun h' kp => ?_) (by simp only [List.size_toArray] <;> omega)
    have I1 : Inv X pins σ H { s with heap := h' } := I.kept (t' := s.toks) kp
    have I2 : Inv X pins σ (upd H h'.objs.size (.tup ys)) { s with heap := h'.push { cls := .type "tuple", data := .seq its.toArray } } :=
      I1.laid (t' := s.toks) (fun b o e => Heap.get?_push_of_some _ e) (Nat.le_refl _) (show ObjOk X.prog X.w _ _ _ (.tup ys) from ⟨hz, its, r', IsTup.new _ _⟩)
    exact ⟨.ref h'.objs.size, _, I2, rfl, q _ (I1.hok.fresh (Nat.le_refl _))⟩
  · obtain ⟨its, r', pl, hz⟩ := I.tuple hq
    exact call_tuple_same pl ⟨.ref p, H, I, rfl, q⟩

/-! ### the call of a builtin's method: o.m(..) -/
/-- the value is of that builtin type -/
def tyV (K : PySem.W.Frag) (T : String) (x : V) (H : Hp) : Prop := match x with
  | .str _ => T = "str"
  | .int _ => T = "int"
  | .ref p => (T = "list" ∧ ∃ xs, SqL K H p xs) ∨ (T = "tuple" ∧ ∃ o, K.lookup p = some o ∧ o.cls = .type "tuple" ∧ o.dict = none) ∨
      (T = "dict" ∧ ((∃ kvs, H p = some (.dK kvs)) ∨ ∃ kvs, H p = some (.dT kvs))) ∨ (T = "set" ∧ ∃ S n, H p = some (.set S n))
  | _ => False
theorem tyV_is {pins : List (Addr × Obj)} {σ : St} {H : Hp} {s : Shared} {T : String} {x : V} {v : Value} (I : Inv X pins σ H s) (r : RelV x v) (ty : tyV X.K T x H) :
    s.TypeIs v T ∧ ∀ a, v = .ref a → ∃ ob, s.heap.get? a = some ob ∧ ob.dict = none := by
  cases x with
  | str z =>
    obtain ⟨t, rfl⟩ := r
    cases (show T = "str" from ty)
    exact ⟨typeIs_str s z t, fun _ e => nomatch e⟩
  | int i =>
    obtain ⟨t, rfl⟩ := r
    cases (show T = "int" from ty)
    exact ⟨typeIs_int s i t, fun _ e => nomatch e⟩
  | ref p =>
    cases r
    rcases ty with ⟨rfl, xs, hq⟩ | ⟨rfl, o, hk, hc, hd⟩ | ⟨rfl, hk⟩ | ⟨rfl, S, n, hk⟩
    · obtain ⟨its, _, pl, _⟩ := I.list hq
      refine ⟨pl.isList.typeIs, fun a e => ?_⟩
      cases e
      obtain ⟨o, n, e, c, hd, _⟩ := pl
      exact ⟨o, e, hd⟩
    · refine ⟨⟨o, I.kIn p o hk, hc⟩, fun a e => ?_⟩
      cases e
      exact ⟨o, I.kIn _ o hk, hd⟩
    · have z : ∃ o, s.heap.get? p = some o ∧ o.ExactDict := by
        rcases hk with ⟨kvs, hk⟩ | ⟨kvs, hk⟩
        · obtain ⟨_, _, _, _, o, _, _, e, ex, _⟩ := I.hok p _ hk
          exact ⟨o, e, ex⟩
        · obtain ⟨_, _, _, _, o, _, _, e, ex, _⟩ := I.hok p _ hk
          exact ⟨o, e, ex⟩
      obtain ⟨o, e, ex⟩ := z
      refine ⟨⟨o, e, ex.1⟩, fun a e2 => ?_⟩
      cases e2
      exact ⟨o, e, ex.2.1⟩
    · obtain ⟨o, _, _, _, e, ex, _⟩ := I.hok p _ hk
      refine ⟨⟨o, e, ex.1⟩, fun a e2 => ?_⟩
      cases e2
      exact ⟨o, e, ex.2.1⟩
  | _ => exact False.elim ty
def tBM0 (K : PySem.W.Frag) (T : String) (r : V → List V → Hp → VK → Prop) (to : TE) : TE := fun σ H Q => to σ H fun x H1 => tyV K T x H1 ∧ r x [] H1 Q
def tBM (K : PySem.W.Frag) (T : String) (r : V → List V → Hp → VK → Prop) (to : TE) (t : TA) : TE := fun σ H Q => to σ H fun x H1 => tyV K T x H1 ∧ t σ H1 fun xs H2 => r x xs H2 Q
variable {o e : Expr} {es : List Expr} {to : TE} {t : TA} {name : Str} {apos cpos : Pos} {T id : String} {r : V → List V → Hp → VK → Prop}
theorem pe_bm0 (pa : PlainAttrs T) (slot : Slot T name id) (hty : typeOf (.builtin id) = pure (.type "method_descriptor")) (hm : MtR X id r) (ho : PE X o to)
    (hbase : attributeBase o name X.env (eval o X.env) = eval o X.env := by rfl) (hline : (apos.endLine == cpos.line) = true := by rfl) : PE X (.Call (.Attribute o name apos) [] [] cpos) (tBM0 X.K T r to) := by
  intro pins s σ H Q I h
  refine wpAny_Call_method0_late hbase hline (thn (ho pins s σ H _ I h) fun v s1 ⟨x, H1, I1, r1, ty, q1⟩ => ?_)
  obtain ⟨h1, h2⟩ := tyV_is I1 r1 ty
  exact ⟨T, id, pa, slot, hty, h1, h2, Calls.callWith_builtin rfl (PySem.evalArgs_none (hm pins s1 σ H1 x [] v [] Q I1 r1 .nil q1))⟩
theorem pe_bm (pa : PlainAttrs T) (slot : Slot T name id) (hty : typeOf (.builtin id) = pure (.type "method_descriptor")) (hm : MtR X id r) (ho : PE X o to) (ha : PA X (e :: es) t)
    (hbase : attributeBase o name X.env (eval o X.env) = eval o X.env := by rfl)
    (hfew : ((backTo cpos (starEach (e :: es) X.env)).all (fun x => !x.1) && (backToKw cpos (keywordEach [] X.env)).all (fun x => x.1.isSome)
      && decide ((e :: es).length + ([] : List Keyword).length + (if ([] : List Keyword).isEmpty then 0 else 1) < 30)) = true := by rfl)
    (hline : (apos.endLine == cpos.line) = true := by rfl) (hs : starEach (e :: es) X.env = (false, eval e X.env) :: starEach es X.env := by rfl) (hplain : (backTo cpos (starEach es X.env)).any (·.1) = false := by rfl) :
    PE X (.Call (.Attribute o name apos) (e :: es) [] cpos) (tBM X.K T r to t) := by
  intro pins s σ H Q I h
  refine wpAny_Call_method_late hbase hfew hline rfl (thn (ho pins s σ H _ I h) fun v s1 ⟨x, H1, I1, r1, ty, q1⟩ => ?_)
  obtain ⟨h1, h2⟩ := tyV_is I1 r1 ty
  refine ⟨T, id, pa, slot, hty, h1, h2, ?_⟩
  have hA := ha cpos pins s1 σ H1 _ I1 q1
  rw [hs] at hA ⊢
  refine Calls.callWith_builtin (by show (false || (backTo cpos (starEach es X.env)).any (·.1)) = false; rw [hplain] <;> rfl) (Calls.evalArgs_plain ?_)
  exact thn hA fun us s2 ⟨vs, H2, I2, r2, q2⟩ => hm pins s2 σ H2 x vs v us Q I2 r1 r2 q2
/- xs.append(e), list.index on a module's tuple .. are MtR facts of 06m -/
end
end L2

namespace L2
open PySem PySem.Spec PyProof.Rows

def MtM (X : Cx) (id : String) (r : V → List V → Hp → VK → Prop) : Prop :=
  ∀ (pins : List (Addr × Obj)) (s : Shared) (σ : St) (H : Hp) (x : V) (xs : List V) (v : Value) (us : List Value) (Q : VK), Inv X pins σ H s → RelV x v → Vals xs us → r x xs H Q →
    wpAny (model X.prog X.w) X.A (call (.builtin id) (v :: us)) (EP X pins σ Q) X.xe s

/-! ### lists of values -/
theorem Vals.one : ∀ {x : V} {us : List Value}, Vals [x] us → ∃ u, us = [u] ∧ RelV x u
  | _, _, .cons r .nil => ⟨_, rfl, r⟩
theorem Vals.zero : ∀ {us : List Value}, Vals [] us → us = []
  | _, .nil => rfl
theorem Vals.dropLast {xs : List V} {us : List Value} (h : Vals xs us) : Vals xs.dropLast us.dropLast := by
  induction h with
  | nil => exact .nil
  | cons r t ih =>
    cases t with
    | nil => exact .nil
    | cons q t' => exact .cons r ih
theorem Vals.eraseIdx : ∀ {xs : List V} {us : List Value} (i : Nat), Vals xs us → Vals (xs.eraseIdx i) (us.eraseIdx i)
  | _, _, _, .nil => .nil
  | _, _, 0, .cons _ t => t
  | _, _, i + 1, .cons r t => .cons r (Vals.eraseIdx i t)
theorem erase_last {α : Type} (l : List α) : l.eraseIdx (l.length - 1) = l.dropLast := by
  induction l with
  | nil => rfl
  | cons a r ih =>
    cases r with
    | nil => rfl
    | cons b r =>
      have e : (a :: b :: r).length - 1 = ((b :: r).length - 1) + 1 := by
        have h1 : (a :: b :: r).length = r.length + 2 := rfl
        have h2 : (b :: r).length = r.length + 1 := rfl
        omega
      rw [e, List.eraseIdx_cons_succ, ih]
      all_goals rfl
theorem len_erase {α : Type} : ∀ (l : List α) (i : Nat), (l.eraseIdx i).length ≤ l.length
  | [], _ => Nat.le_refl _
  | _ :: _, 0 => Nat.le_succ _
  | _ :: r, i + 1 => Nat.succ_le_succ (len_erase r i)
section
variable {X : Cx} {pins : List (Addr × Obj)} {σ : St} {H : Hp} {s : Shared} {l b : Addr} {xs ys zs : List V}

/-! ### the two steps: a tracked list is rewritten, a new list is laid -/
theorem Inv.lset {its its' : List Value} {n : Nat} {f : Array Value → Array Value} {t' : Nat} (I : Inv X pins σ H s) (hH : H l = some (.lst xs))
    (e : s.heap.get? l = some { cls := .type "list", data := .seq its.toArray n }) (hf : f its.toArray = its'.toArray) (hv : Vals ys its') (hz : ys.length ≤ sizeLine) :
    Inv X pins σ (upd H l (.lst ys)) { s with heap := s.heap.update l (Obj.mapSeq f), toks := t' } := by
  have q := PySem.IsL.update e f
  rw [hf] at q
  refine I.write (x := l) (e := l) (by rw [hH]; exact trivial) (.inl rfl) (fun b' u hb hu => (Heap.get?_update_other s.heap (Obj.mapSeq f) (Ne.symm hb)).trans hu) ⟨_, q⟩ ?_
  exact ⟨hz, its', _, hv, q⟩
theorem Inv.lnew {its : List Value} {t' : Nat} (I : Inv X pins σ H s) (hv : Vals ys its) (hz : ys.length ≤ sizeLine) :
    Inv X pins σ (upd H s.heap.objs.size (.lst ys)) { s with heap := s.heap.push { cls := .type "list", data := .seq its.toArray }, toks := t' } :=
  I.laid (fun _ _ q => Heap.get?_push_of_some _ q) (Nat.le_refl _) ⟨hz, its, 0, hv, Heap.get?_push_size _ rfl⟩
theorem Inv.fresh (I : Inv X pins σ H s) : H s.heap.objs.size = none := I.hok.fresh (Nat.le_refl _)
theorem Inv.lstM (I : Inv X pins σ H s) (hH : H l = some (.lst xs)) : xs.length ≤ sizeLine ∧ ∃ (its : List Value) (n : Nat), Vals xs its ∧ xs.length = its.length ∧ s.heap.get? l = some { cls := .type "list", data := .seq its.toArray n } := by
  obtain ⟨z, its, n, r, e⟩ := I.hok l _ hH
  exact ⟨z, its, n, r, r.length, e⟩

theorem notLongL {n : Nat} (h : n ≤ sizeLine) : Builtin.List.listTooLong n = false := by
  unfold Builtin.List.listTooLong
  exact decide_eq_false (by omega)
end

section
variable {X : Cx}

/-! ### methods -/
def rAppend : V → List V → Hp → VK → Prop := fun x vs H Q => ∃ l xs y, x = .ref l ∧ vs = [y] ∧ H l = some (.lst xs) ∧ xs.length < sizeLine ∧ Q .non (upd H l (.lst (xs ++ [y])))
theorem mt_append : MtM X "list.append" rAppend := by
  intro pins s σ H x vs v us Q I rx rv h
  obtain ⟨l, xs, y, rfl, rfl, hH, hz, q⟩ := h
  cases rx
  obtain ⟨u, rfl, ru⟩ := rv.one
  obtain ⟨z, its, n, r, hl, e⟩ := I.lstM hH
  refine call_meets F.slot_list_append ⟨_, e, rfl⟩ F.entry_list_append (F.args_list_append_2 _ _) (PySem.list_append l its.toArray n u (by rw [List.size_toArray]; omega)) ⟨e, ?_⟩
  refine ⟨.non, _, I.lset (its' := its ++ [u]) hH e (by simp) (r.append (.cons ru .nil)) ?_, rfl, q⟩
  rw [List.length_append, List.length_singleton]
  omega

def rExtend : V → List V → Hp → VK → Prop := fun x vs H Q => ∃ l b xs zs, x = .ref l ∧ vs = [.ref b] ∧ H l = some (.lst xs) ∧ H b = some (.lst zs) ∧ xs.length + zs.length ≤ sizeLine ∧ Q .non (upd H l (.lst (xs ++ zs)))
theorem mt_extend : MtM X "list.extend" rExtend := by
  intro pins s σ H x vs v us Q I rx rv h
  obtain ⟨l, b, xs, zs, rfl, rfl, hH, hB, hz, q⟩ := h
  cases rx
  obtain ⟨u, rfl, ru⟩ := rv.one
  cases ru
  obtain ⟨z, its, n, r, hl, e⟩ := I.lstM hH
  obtain ⟨z2, its2, n2, r2, hl2, e2⟩ := I.lstM hB
  have hsz : its.toArray.size + its2.toArray.size ≤ sizeLine := by rw [List.size_toArray, List.size_toArray]; omega
  have hlong : ¬ (!its.toArray.isEmpty && Builtin.List.listTooLong (its.toArray.size + its2.toArray.size)) = true := by
    rw [notLongL hsz, Bool.and_false]
    exact Bool.false_ne_true
  refine call_meets F.slot_list_extend ⟨_, e, rfl⟩ F.entry_list_extend (F.args_list_extend_2 _ _)
    (AutoSeq1.list_extend_list_list_0 l its.toArray n b its2.toArray n2 hlong (by rw [List.size_toArray]; omega) (by omega)) ⟨e, e2, ?_⟩
  refine ⟨.non, _, I.lset (its' := its ++ its2) hH e (by simp) (r.append r2) ?_, rfl, q⟩
  rw [List.length_append]
  omega

def rPop : V → List V → Hp → VK → Prop := fun x vs H Q => ∃ l xs y, x = .ref l ∧ vs = [] ∧ H l = some (.lst xs) ∧ xs[xs.length - 1]? = some y ∧ Q y (upd H l (.lst xs.dropLast))
theorem mt_pop : MtM X "list.pop" rPop := by
  intro pins s σ H x vs v us Q I rx rv h
  obtain ⟨l, xs, y, rfl, rfl, hH, hy, q⟩ := h
  cases rx
  have hus := rv.zero
  subst hus
  obtain ⟨z, its, n, r, hl, e⟩ := I.lstM hH
  obtain ⟨u, hu, ru⟩ := r.get hy
  have hy' : its.toArray[its.toArray.size - 1]? = some u := by
    show its.toArray[its.length - 1]? = some u
    rw [← Array.getElem?_toList, ← hl]
    exact hu
  refine call_meets F.slot_list_pop ⟨_, e, rfl⟩ F.entry_list_pop (F.args_list_pop_1 _) (MeetsSeq.list_pop_last l its.toArray n u hy' (by rw [List.size_toArray]; omega)) ⟨e, ?_⟩
  refine ⟨y, _, I.lset (its' := its.dropLast) hH e ?_ r.dropLast ?_, ru, q⟩
  · show its.toArray.eraseIdxIfInBounds (its.toArray.size - 1) = its.dropLast.toArray
    rw [List.size_toArray, List.eraseIdxIfInBounds_toArray, erase_last]
  · rw [List.length_dropLast]
    omega

def rPopAt : V → List V → Hp → VK → Prop := fun x vs H Q => ∃ l xs i k y, x = .ref l ∧ vs = [.int i] ∧ H l = some (.lst xs) ∧ -(2 ^ 63) ≤ i ∧ i < 2 ^ 63 ∧ seqIndex? i xs.length = some k ∧ xs[k]? = some y ∧ Q y (upd H l (.lst (xs.eraseIdx k)))
theorem mt_popAt : MtM X "list.pop" rPopAt := by
  intro pins s σ H x vs v us Q I rx rv h
  obtain ⟨l, xs, i, k, y, rfl, rfl, hH, h1, h2, hk, hy, q⟩ := h
  cases rx
  obtain ⟨u, rfl, ru⟩ := rv.one
  obtain ⟨t, rfl⟩ := ru
  obtain ⟨z, its, n, r, hl, e⟩ := I.lstM hH
  obtain ⟨w, hw, rw'⟩ := r.get hy
  refine call_meets F.slot_list_pop ⟨_, e, rfl⟩ F.entry_list_pop (F.args_list_pop_2 _ _)
    (MeetsSeq.list_pop_at l its.toArray n i t k w (fitsIndex_both h1 h2) (by rw [List.size_toArray, ← hl]; exact hk) (by rw [← Array.getElem?_toList]; exact hw) (by rw [List.size_toArray]; omega)) ⟨e, ?_⟩
  refine ⟨y, _, I.lset (its' := its.eraseIdx k) hH e ?_ (r.eraseIdx k) ?_, rw', q⟩
  · show its.toArray.eraseIdxIfInBounds k = (its.eraseIdx k).toArray
    rw [List.eraseIdxIfInBounds_toArray]
  · have := len_erase xs k
    omega

/-! ### list + list, list += list, list * int -/
def rCat : R2 := fun x y H Q => ∃ l b xs zs, x = .ref l ∧ y = .ref b ∧ H l = some (.lst xs) ∧ H b = some (.lst zs) ∧ xs.length + zs.length ≤ sizeLine ∧ ∀ p, H p = none → Q (.ref p) (upd H p (.lst (xs ++ zs)))
theorem op_cat : OpR X (binaryOp .Add) rCat := by
  intro pins s σ H x y v u Q I rx ry h
  obtain ⟨l, b, xs, zs, rfl, rfl, hH, hB, hz, q⟩ := h
  cases rx
  cases ry
  obtain ⟨z, its, n, r, hl, e⟩ := I.lstM hH
  obtain ⟨z2, its2, n2, r2, hl2, e2⟩ := I.lstM hB
  refine PySem.P.add_list e e2 ?_ (by rw [List.size_toArray, List.size_toArray]; omega)
  have ea : its.toArray ++ its2.toArray = (its ++ its2).toArray := by simp
  rw [ea]
  exact ⟨.ref _, _, I.lnew (t' := s.toks) (r.append r2) (by rw [List.length_append]; omega), rfl, q _ I.fresh⟩
/-! ### del xs[i] -/
end

/-! ### xs[a:b] = ys -/
section
variable {prog : Program} {w : World} {A : Around} {E : Value → Shared → Prop} {s : Shared}
end

section
variable {X : Cx}
end
end L2

namespace L2
open PySem PySem.Spec PyProof.Rows

theorem Vals.ints : ∀ {ns : List Int} {us : List Value}, Vals (ns.map V.int) us → IntsAre us ns
  | [], us, h => by
    rw [List.map_nil] at h
    cases h
    exact IntsAre.nil
  | n :: ns, us, h => by
    rw [List.map_cons] at h
    cases h with
    | cons r t =>
      obtain ⟨k, rfl⟩ := r
      exact IntsAre.cons n k (Vals.ints t)
theorem Vals.strs : ∀ {xs : List Str} {us : List Value}, Vals (xs.map V.str) us → StrsAre us xs
  | [], us, h => by
    rw [List.map_nil] at h
    cases h
    exact StrsAre.nil
  | x :: xs, us, h => by
    rw [List.map_cons] at h
    cases h with
    | cons r t =>
      obtain ⟨k, rfl⟩ := r
      exact StrsAre.cons x k (Vals.strs t)
theorem vals_of_strs : ∀ {us : List Value} {xs : List Str}, StrsAre us xs → Vals (xs.map V.str) us
  | _, _, .nil => by rw [List.map_nil]; exact Paired.nil
  | _, _, .cons x t h => by rw [List.map_cons]; exact Paired.cons (show RelV (V.str x) (Value.str x t) from ⟨t, rfl⟩) (vals_of_strs h)
theorem Vals.bls : ∀ {bs : List Bool} {us : List Value}, Vals (bs.map V.bl) us → us = bs.map Value.bool
  | [], us, h => by
    rw [List.map_nil] at h
    cases h
    rfl
  | b :: bs, us, h => by
    rw [List.map_cons] at h
    cases h with
    | cons r t =>
      cases r
      rw [Vals.bls t, List.map_cons]
theorem Vals.ref1 {a : Addr} {us : List Value} (r : Vals [V.ref a] us) : us = [Value.ref a] := by
  cases r with
  | cons r t =>
    cases t
    cases r
    rfl
/-! ### the library's walks over a list of ints, kept objects alone -/
section
variable {prog : Program} {w : World} {A : Around} {E : Value → Shared → Prop} {s : Shared} {l : Addr} {its : List Value} {ns : List Int} {Q : Value → Shared → Prop}
theorem min_raw (hh : A.handled = none) (hl : s.heap.IsList l its.toArray) (hi : IntsAre its ns) (hne : 0 < ns.length)
    (h : ∀ h' tk M t', (∀ b o, s.heap.get? b = some o → h'.get? b = some o) → M ∈ ns → (∀ a, a ∈ ns → M ≤ a) → Q (.int M t') { s with heap := h', toks := tk }) : wpAny (model prog w) A (call (.builtin "min") [.ref l]) Q E s := by
  obtain ⟨xs, e⟩ := hi.allInts.items
  have hn : numsOf (intItems xs).toList = ns := by rw [← e]; exact hi.numsOf
  rw [nums_intItems] at hn
  subst hn
  rw [e] at hl
  have hsz : 0 < xs.size := by simpa using hne
  refine PySem.min_intList hh hl hsz fun v h' tk hv hk => ?_
  obtain ⟨t, rfl⟩ := intItems_at hv
  obtain ⟨h1, h2⟩ := argBest_lt (numAt xs) (xs.size - 1)
  refine h h' tk _ t hk ?_ fun a ha => ?_
  · rw [numAt_eq]; exact PySem.getD_mem (by rw [List.length_map, Array.length_toList]; omega)
  · obtain ⟨j, hj, rfl⟩ := mem_getD ha
    rw [List.length_map, Array.length_toList] at hj
    rw [← numAt_eq]; exact h2 j (by omega)
end

/-! ### the calls, by values (CallR of 03t; MtR of 06l) -/
section
variable {X : Cx}
def rMin (K : PySem.W.Frag) : List V → Hp → VK → Prop := fun vs H Q => ∃ (a : Addr) (ns : List Int), vs = [V.ref a] ∧ SqL K H a (ns.map V.int) ∧ 0 < ns.length ∧ ∀ m, m ∈ ns → (∀ y, y ∈ ns → m ≤ y) → Q (.int m) H
theorem cr_min (hc : X.calm = true) : CallR X (.builtin "min") (rMin X.K) := by
  intro pins s σ H vs us Q I r h
  obtain ⟨a, ns, rfl, hs, hne, q⟩ := h
  obtain ⟨its, rv, hl, _⟩ := I.list hs
  rw [Vals.ref1 r]
  exact min_raw (I.ok.hd hc) hl.isList rv.ints hne fun h' tk m t' hk h1 h2 => ⟨.int _, H, I.kept hk, ⟨_, rfl⟩, q m h1 h2⟩

/-! sorted, sort (fewer than 64 items: the library's own bound) -/
def rSortedS (K : PySem.W.Frag) : List V → Hp → VK → Prop := fun vs H Q => ∃ (a : Addr) (xs : List Str), vs = [V.ref a] ∧ SqL K H a (xs.map V.str) ∧ xs.length < 64 ∧
  ∀ (ys : List Str) (p : Addr), ys.Perm xs → sortedS ys = true → H p = none → Q (.ref p) (upd H p (.lst (ys.map V.str)))
theorem small64 {n : Nat} (h : n < 64) : n ≤ sizeLine := by rw [sizeLine_eq]; omega
theorem cr_sortedS : CallR X (.builtin "sorted") (rSortedS X.K) := by
  intro pins s σ H vs us Q I r h
  obtain ⟨a, xs, rfl, hs, h64, q⟩ := h
  obtain ⟨its, rv, hl, _⟩ := I.list hs
  rw [Vals.ref1 r]
  have hlen0 := rv.length
  rw [List.length_map] at hlen0
  refine PyProof.Rows.sorted_strs hl.isList rv.strs (by rw [← hlen0]; exact h64) fun out ys h1 h2 h3 => ?_
  obtain ⟨ep, he'⟩ := PyProof.Rows.sortedAll_at s.heap its out
  have hlen : (ys.map V.str).length ≤ sizeLine := by rw [List.length_map, h2.length_eq]; exact small64 h64
  exact ⟨.ref _, upd H (s.heap.objs.size + 1) (.lst (ys.map V.str)), I.laid (t' := s.toks) (fun _ _ => PyProof.Rows.sortedAll_old) (Nat.le_succ _) ⟨hlen, out.toList, ep, vals_of_strs h1, he'⟩, rfl, q ys _ h2 h3 (I.hok.fresh (Nat.le_succ _))⟩
end

/-! ### list.index, flat items -/
section
variable {X : Cx}
def rIndex (K : PySem.W.Frag) : V → List V → Hp → VK → Prop := fun x xs H Q => ∃ (a : Addr) (ys : List V) (y : V) (j : Nat) (z : V), x = V.ref a ∧ xs = [y] ∧ SqL K H a ys ∧ flatV y = true ∧ ys.all flatV = true ∧ ys[j]? = some z ∧ eqV z y = true ∧
  (∀ (m : Nat) (z' : V), m < j → ys[m]? = some z' → eqV z' y = false) ∧ Q (.int (j : Nat)) H
theorem flat_at {ys : List V} (f : ys.all flatV = true) {j : Nat} {z : V} (h : ys[j]? = some z) : flatV z = true := List.all_eq_true.mp f z (List.mem_of_getElem? h)
theorem mt_index : MtR X "list.index" (rIndex X.K) := by
  intro pins s σ H x xs v us Q I rx rxs h
  obtain ⟨a, ys, y, j, z, rfl, rfl, hs, fy, fys, hz, hzj, hno, q⟩ := h
  cases rx
  cases rxs with
  | cons ry rt =>
    rename_i uy ut
    cases rt
    obtain ⟨its, rv, ⟨⟨cls, dd, data, sl⟩, n, ho, hc, hdn, hd⟩, hlen⟩ := I.list hs
    simp only at hc hd
    subst hc hd
    obtain ⟨u, hu, ru⟩ := rv.get hz
    obtain ⟨hjl, hje⟩ := List.getElem?_eq_some_iff.mp hu
    have hvl := rv.length
    have hj : j < its.toArray.size := by simpa using hjl
    have hsl := sizeLine_eq
    refine call_meets PySem.F.slot_list_index ⟨_, ho, rfl⟩ PySem.F.entry_list_index (PySem.F.args_list_index_2 _ _)
      (SeqAt.list_indexAt a its.toArray n dd sl uy (eqU y) j hj (by omega) ?_ ?_) ⟨ho, fun u' hu' => mem_eqAt ry fy rv fys u' (by simpa using hu'), ?_⟩
    · have e1 : its.toArray[j] = u := by simpa using hje
      rw [e1, eqU_of ru (flat_at fys hz)]
      exact hzj
    · intro m hm hmj
      have hml : m < its.length := by simpa using hm
      have hmy : m < ys.length := by omega
      have hy' : ys[m]? = some ys[m] := List.getElem?_eq_getElem hmy
      obtain ⟨u2, hu2, ru2⟩ := rv.get hy'
      obtain ⟨_, hme⟩ := List.getElem?_eq_some_iff.mp hu2
      have e1 : its.toArray[m] = u2 := by simpa using hme
      rw [e1, eqU_of ru2 (flat_at fys hy')]
      exact hno m _ hmj hy'
    · exact ⟨.int (j : Nat), H, I.tok _, ⟨_, rfl⟩, q⟩
end

/-! ### type(x) of an own instance; is, is not of a module's class -/
section
variable {X : Cx}
end

/-! ### any(xs), all(xs) of a list of bools -/
theorem iter_any {prog : Program} {w : World} {A : Around} {E : Value → Shared → Prop} {s : Shared} {l : Addr} {items : Array Value} {Q : Value → Shared → Prop} (hl : s.heap.IsList l items)
    (h : ∀ s₂ : Shared, s₂ = { s with heap := s.heap.push { cls := .type "list_iterator", data := .fields #[.ref l, .int 0 0] } } →
      (s₂.heap.IsListIter s.heap.objs.size l 0 ∧ s₂.heap.IsList l items) → l ≠ s.heap.objs.size → Q (.ref s.heap.objs.size) s₂) : wpAny (model prog w) A (pyIter (.ref l)) Q E s := by
  have hlt : l < s.heap.objs.size := by obtain ⟨_, e, _⟩ := hl; exact Heap.lt_size e
  exact wpAny_pyIter_list hl (h _ rfl ⟨⟨_, Heap.get?_push_size _ rfl, rfl, rfl⟩, hl.push _⟩ (Nat.ne_of_lt hlt))
theorem truth_bools {prog : Program} {w : World} {A : Around} {bs : List Bool} {its : List Value} (e : its = bs.map Value.bool) :
    TruthOf prog w A (fun i v => its.toArray[i]? = some v) (fun i => bs.getD i false) := fun i v s Q E hv hq => by
  have hv' : its[i]? = some v := by simpa using hv
  rw [e, List.getElem?_map] at hv'
  obtain ⟨b, hb, rfl⟩ := Option.map_eq_some_iff.mp hv'
  have hg : bs.getD i false = b := by rw [List.getD_eq_getElem?_getD, hb] <;> rfl
  have hq' : Q (bs.getD i false) s := hq
  rw [hg] at hq'
  exact wpAny_truthy_bool hq'
theorem all_range : ∀ bs : List Bool, (List.range bs.length).all (fun i => bs.getD i false) = bs.all id
  | [] => rfl
  | b :: bs => by
    rw [List.length_cons, List.range_succ_eq_map, List.all_cons, List.all_map, List.all_cons, ← all_range bs]
    all_goals rfl
section
variable {X : Cx}
def rAll (K : PySem.W.Frag) : List V → Hp → VK → Prop := fun vs H Q => ∃ (a : Addr) (bs : List Bool), vs = [V.ref a] ∧ SqL K H a (bs.map V.bl) ∧ Q (.bl (bs.all id)) H
theorem cr_all (hc : X.calm = true) : CallR X (.builtin "all") (rAll X.K) := by
  intro pins s σ H vs us Q I r h
  obtain ⟨a, bs, rfl, hs, q⟩ := h
  obtain ⟨its, rv, hl, _⟩ := I.list hs
  rw [Vals.ref1 r]
  have hb := rv.bls
  refine call_all_walk (iter_any hl.isList fun s₂ e2 st hne => ?_)
  subst e2
  refine ⟨_, _, _, _, _, _, _, rfl, Walks.list (A := X.A.in1) (I.ok.hd hc) _ a hne its.toArray, st, truth_bools hb, fun h' tk hk => ?_⟩
  refine ⟨.bl _, H, I.kept fun b o eo => hk b o (fun hmem => ?_) (Heap.get?_push_of_some _ eo), ?_, q⟩
  · rcases List.mem_cons.mp hmem with e1 | hmem
    · exact absurd (e1 ▸ Heap.lt_size eo) (Nat.lt_irrefl _)
    · cases hmem
  · show Value.bool _ = Value.bool _
    rw [← all_range, hb, List.size_toArray, List.length_map]
end

/-! ### == and != of data at any depth: none, bools, ints, texts, lists, tuples -/
mutual
inductive Dp (K : PySem.W.Frag) (H : Hp) : V → PyData → Prop
  | non : Dp K H .non .none
  | bl (b : Bool) : Dp K H (.bl b) (.bool b)
  | int (i : Int) : Dp K H (.int i) (.int i)
  | str (x : Str) : Dp K H (.str x) (.str x)
  | lst {a : Addr} {xs : List V} {ds : List PyData} : SqL K H a xs → DpAll K H xs ds → Dp K H (.ref a) (.list ds)
  | tup {a : Addr} {xs : List V} {ds : List PyData} : SqT K H a xs → DpAll K H xs ds → Dp K H (.ref a) (.tuple ds)
inductive DpAll (K : PySem.W.Frag) (H : Hp) : List V → List PyData → Prop
  | nil : DpAll K H [] []
  | cons {v : V} {vs : List V} {d : PyData} {ds : List PyData} : Dp K H v d → DpAll K H vs ds → DpAll K H (v :: vs) (d :: ds)
end
section
variable {X : Cx} {pins : List (Addr × Obj)} {σ : St} {H : Hp} {s : Shared}
mutual
theorem Dp.reads (I : Inv X pins σ H s) : ∀ (d : PyData) (v : V) (u : Value), Dp X.K H v d → RelV v u → ∃ as, Reads s.heap u d as
  | .none, _, _, h, r => by
    cases h
    cases r
    exact ⟨_, Reads.none⟩
  | .bool b, _, _, h, r => by
    cases h
    cases r
    exact ⟨_, Reads.bool b⟩
  | .int i, _, _, h, r => by
    cases h
    obtain ⟨t, rfl⟩ := r
    exact ⟨_, Reads.int i t⟩
  | .str x, _, _, h, r => by
    cases h
    obtain ⟨t, rfl⟩ := r
    exact ⟨_, Reads.str x t⟩
  | .list ds, _, _, h, r => by
    cases h with
    | lst hs ha =>
      cases r
      obtain ⟨its, rv, ⟨o, n, ho, hc, _, hd⟩, _⟩ := I.list hs
      obtain ⟨as, hr⟩ := Dp.readsAll I ds _ its ha rv
      exact ⟨_, Reads.list ho hc hd hr⟩
  | .tuple ds, _, _, h, r => by
    cases h with
    | tup hs ha =>
      cases r
      obtain ⟨its, rv, ⟨o, ho, hc, n, hd⟩, _⟩ := I.tuple hs
      obtain ⟨as, hr⟩ := Dp.readsAll I ds _ its ha rv
      exact ⟨_, Reads.tuple ho hc hd hr⟩
  | .dict _, _, _, h, _ => by cases h
theorem Dp.readsAll (I : Inv X pins σ H s) : ∀ (ds : List PyData) (vs : List V) (us : List Value), DpAll X.K H vs ds → Vals vs us → ∃ as, ReadsAll s.heap us ds as
  | [], _, _, h, r => by
    cases h
    cases r
    exact ⟨_, ReadsAll.nil⟩
  | d :: ds, _, _, h, r => by
    cases h with
    | cons h1 h2 =>
      cases r with
      | cons r1 r2 =>
        obtain ⟨as, q1⟩ := Dp.reads I d _ _ h1 r1
        obtain ⟨bs, q2⟩ := Dp.readsAll I ds _ _ h2 r2
        exact ⟨_, ReadsAll.cons q1 q2⟩
end
end
section
variable {X : Cx}
def rEqD (K : PySem.W.Frag) : R2 := fun x y H Q => ∃ d e, Dp K H x d ∧ Dp K H y e ∧ SeqAt.shaped d = true ∧ SeqAt.shaped e = true ∧ Q (.bl (PyData.eqv d e)) H
def rNeD (K : PySem.W.Frag) : R2 := fun x y H Q => ∃ d e, Dp K H x d ∧ Dp K H y e ∧ SeqAt.shaped d = true ∧ SeqAt.shaped e = true ∧ Q (.bl (!PyData.eqv d e)) H
theorem op_eqD (hu : X.A.units + 64 < cLine) : OpR X (compareOp .Eq) (rEqD X.K) := by
  intro pins s σ H x y v u Q I rx ry h
  obtain ⟨d, e, hd, he, sd, se, q⟩ := h
  obtain ⟨as, r1⟩ := Dp.reads I d x v hd rx
  obtain ⟨bs, r2⟩ := Dp.reads I e y u he ry
  exact SeqAt.compareEq_shaped r1 r2 sd se hu ⟨.bl _, H, I, rfl, q⟩
theorem op_neD (hu : X.A.units + 64 < cLine) : OpR X (compareOp .NotEq) (rNeD X.K) := by
  intro pins s σ H x y v u Q I rx ry h
  obtain ⟨d, e, hd, he, sd, se, q⟩ := h
  obtain ⟨as, r1⟩ := Dp.reads I d x v hd rx
  obtain ⟨bs, r2⟩ := Dp.reads I e y u he ry
  exact SeqAt.compareNe_shaped r1 r2 sd se hu ⟨.bl _, H, I, rfl, q⟩
end
end L2

namespace L2
open PySem PySem.Spec PyProof.Rows
abbrev CellAt (h : Heap) (c : Addr) (v : Option Value) : Prop := h.IsCell c v
def relS (scope sc : Scope) : Scope :=
  { scope with names := scope.names.map fun (n, k) => if (k == .free && sc.kind == .function && sc.names.lookup n == some .cell) then (n, .cell) else (n, k) }

def cloFrom (cells : List (Str × Addr)) : List (Str × NameKind) → List (Str × Addr) → List (Str × Addr)
  | [], acc => acc
  | (n, k) :: r, acc => if k == .free then cloFrom cells r ((n, (cells.lookup n).getD 0) :: acc) else cloFrom cells r acc

theorem closure_loop (env : Env) (f : Str × NameKind → List (Str × Addr) → Sem (ForInStep (List (Str × Addr))))
    (hf : ∀ n k c, f (n, k) c = if k == .free then (do let a ← cellOf env n; pure (.yield ((n, a) :: c))) else pure (.yield c)) :
    ∀ (names : List (Str × NameKind)) (acc : List (Str × Addr)), (∀ y ∈ names, y.2 = .free → ∃ c, env.cells.lookup y.1 = some c) → forIn names acc f = pure (cloFrom env.cells names acc)
  | [], acc, _ => by rw [List.forIn_nil]; rfl
  | (n, k) :: r, acc, h => by
    rw [List.forIn_cons, hf]
    have ih := fun acc => closure_loop env f hf r acc fun y hy => h y (List.mem_cons_of_mem _ hy)
    unfold cloFrom
    by_cases hk : (k == NameKind.free) = true
    · rw [if_pos hk, if_pos hk]
      obtain ⟨c, hc⟩ := h (n, k) List.mem_cons_self (by simpa using hk)
      have e : cellOf env n = pure c := by unfold cellOf; rw [hc]
      rw [e]
      have e2 : (env.cells.lookup n).getD 0 = c := by rw [hc]; rfl
      rw [e2]
      exact ih _
    · rw [if_neg hk, if_neg hk]
      exact ih _
theorem closure_ok {scope : Scope} {env : Env} (h : ∀ y ∈ scope.names, y.2 = .free → ∃ c, env.cells.lookup y.1 = some c) : closureFor scope env = pure (cloFrom env.cells scope.names []) := by
  simp only [closureFor]
  rw [closure_loop env _ (fun n k c => rfl) scope.names [] h]
  rfl

theorem mem_lookup {α : Type} : ∀ {l : List (Str × α)} {n : Str} {c : α}, (n, c) ∈ l → ∃ c', l.lookup n = some c'
  | (k, v) :: r, n, c, h => by
    rw [List.lookup_cons]
    cases hb : n == k with
    | true => exact ⟨_, rfl⟩
    | false =>
      rcases List.mem_cons.mp h with e | h
      · cases e; simp at hb
      · exact mem_lookup h

theorem cloFrom_mem {cells : List (Str × Addr)} : ∀ {names : List (Str × NameKind)} {acc : List (Str × Addr)} {n : Str} {c : Addr}, (n, c) ∈ cloFrom cells names acc → (n, c) ∈ acc ∨ ((n, .free) ∈ names ∧ c = (cells.lookup n).getD 0)
  | [], _, _, _, h => .inl h
  | (m, k) :: r, acc, n, c, h => by
    unfold cloFrom at h
    split at h
    · rename_i hk
      have hk : k = .free := by simpa using hk
      rcases cloFrom_mem h with h | ⟨h1, h2⟩
      · rcases List.mem_cons.mp h with e | h
        · cases e; exact .inr ⟨hk ▸ List.mem_cons_self, rfl⟩
        · exact .inl h
      · exact .inr ⟨List.mem_cons_of_mem _ h1, h2⟩
    · rcases cloFrom_mem h with h | ⟨h1, h2⟩
      · exact .inl h
      · exact .inr ⟨List.mem_cons_of_mem _ h1, h2⟩
theorem cloFrom_acc {cells : List (Str × Addr)} : ∀ {names : List (Str × NameKind)} {acc : List (Str × Addr)} {p : Str × Addr}, p ∈ acc → p ∈ cloFrom cells names acc
  | [], _, _, h => h
  | (m, k) :: r, acc, p, h => by
    unfold cloFrom
    split
    · exact cloFrom_acc (List.mem_cons_of_mem _ h)
    · exact cloFrom_acc h
theorem cloFrom_has {cells : List (Str × Addr)} : ∀ {names : List (Str × NameKind)} {acc : List (Str × Addr)} {n : Str}, (n, .free) ∈ names → (n, (cells.lookup n).getD 0) ∈ cloFrom cells names acc
  | (m, k) :: r, acc, n, h => by
    unfold cloFrom
    rcases List.mem_cons.mp h with e | h
    · cases e
      exact cloFrom_acc List.mem_cons_self
    · split
      · exact cloFrom_has h
      · exact cloFrom_has h

theorem cells_mem : ∀ {names : List (Str × NameKind)} {h : Heap} {acc : List (Str × Addr)} {x : Str} {c : Addr}, (x, c) ∈ cellsFrom h.objs.size names acc →
    (x, c) ∈ acc ∨ ((x, .cell) ∈ names ∧ h.objs.size ≤ c ∧ CellAt (pushCells h names) c none)
  | [], _, _, _, _, h => .inl h
  | (n, k) :: r, h, acc, x, c, hm => by
    unfold cellsFrom at hm
    unfold pushCells
    split at hm
    · rename_i hk
      rw [if_pos hk]
      have hk : k = .cell := by simpa using hk
      rw [← Heap.size_push h { cls := .type "cell", data := .cell none }] at hm
      rcases cells_mem hm with hm | ⟨h1, h2, h3⟩
      · rcases List.mem_cons.mp hm with e | hm
        · cases e
          exact .inr ⟨hk ▸ List.mem_cons_self, Nat.le_refl _, _, pushCells_keeps r _ _ _ (Heap.get?_push_size _ rfl), rfl⟩
        · exact .inl hm
      · rw [Heap.size_push] at h2
        exact .inr ⟨List.mem_cons_of_mem _ h1, Nat.le_of_succ_le h2, h3⟩
    · rename_i hk
      rw [if_neg hk]
      rcases cells_mem hm with hm | ⟨h1, h2, h3⟩
      · exact .inl hm
      · exact .inr ⟨List.mem_cons_of_mem _ h1, h2, h3⟩
theorem cells_acc : ∀ {names : List (Str × NameKind)} {n : Nat} {acc : List (Str × Addr)} {p : Str × Addr}, p ∈ acc → p ∈ cellsFrom n names acc
  | [], _, _, _, h => h
  | (m, k) :: r, n, acc, p, h => by
    unfold cellsFrom
    split
    · exact cells_acc (List.mem_cons_of_mem _ h)
    · exact cells_acc h
theorem cells_has : ∀ {names : List (Str × NameKind)} {n : Nat} {acc : List (Str × Addr)} {x : Str}, (x, .cell) ∈ names → ∃ c, (x, c) ∈ cellsFrom n names acc
  | (m, k) :: r, n, acc, x, h => by
    unfold cellsFrom
    rcases List.mem_cons.mp h with e | h
    · cases e
      exact ⟨n, cells_acc List.mem_cons_self⟩
    · split
      · exact cells_has h
      · exact cells_has h
theorem cells_inj : ∀ {names : List (Str × NameKind)} {h : Heap} {acc : List (Str × Addr)} {x y : Str} {c : Addr}, (∀ p ∈ acc, p.2 < h.objs.size) → (∀ x y c, (x, c) ∈ acc → (y, c) ∈ acc → x = y) →
    (x, c) ∈ cellsFrom h.objs.size names acc → (y, c) ∈ cellsFrom h.objs.size names acc → x = y
  | [], _, _, _, _, _, _, hi, h1, h2 => hi _ _ _ h1 h2
  | (n, k) :: r, h, acc, x, y, c, hl, hi, h1, h2 => by
    unfold cellsFrom at h1 h2
    split at h1
    · rename_i hk
      rw [if_pos hk] at h2
      rw [← Heap.size_push h { cls := .type "cell", data := .cell none }] at h1 h2
      refine cells_inj (h := h.push _) (fun p hp => ?_) (fun x y c a b => ?_) h1 h2
      · rw [Heap.size_push]
        rcases List.mem_cons.mp hp with rfl | hp
        · exact Nat.lt_succ_self _
        · exact Nat.lt_succ_of_lt (hl p hp)
      · rcases List.mem_cons.mp a with e | a <;> rcases List.mem_cons.mp b with e' | b
        · cases e; cases e'; rfl
        · cases e; exact absurd (hl _ b) (Nat.lt_irrefl _)
        · cases e'; exact absurd (hl _ a) (Nat.lt_irrefl _)
        · exact hi _ _ _ a b
    · rename_i hk
      rw [if_neg hk] at h2
      exact cells_inj hl hi h1 h2

theorem newEnv_comp {M : Model} {A : Around} {E : Value → Shared → Prop} {s : Shared} {scope : Scope} {globals : Addr} {closure : List (Str × Addr)} {qual : Str} {func : Option Addr} {code : Value} {around : Env} {builtins : Addr} {Q : Env → Shared → Prop}
    (h : Q (newEnv scope s.heap.objs.size globals (cellsFrom (s.heap.objs.size + 1) scope.names closure) qual func code (some around) builtins)
      { s with heap := pushCells (s.heap.push { cls := .type "dict", data := .dict #[] }) scope.names }) :
    wpAny M A (newFunctionEnv scope globals closure [] qual func code (some around) builtins) Q E s := by
  simp only [newFunctionEnv, Option.isSome_some, if_true]
  refine wpAny_bind (wpAny_alloc ?_)
  refine wpAny_bind (wpAny_layCells _ (fun n k c => rfl) scope.names closure _ _ ?_)
  rw [show ({ s with heap := s.heap.push { cls := .type "dict", data := .dict #[] } } : Shared).heap.objs.size = s.heap.objs.size + 1 from Heap.size_push ..]
  rw [List.forIn_nil]
  exact wpAny_bind (wpAny_pure (wpAny_pure h))

/-- every name of the written scope, in the scope that runs -/
theorem lookup_relS {sc : Scope} : ∀ {names : List (Str × NameKind)} {x : Str} {k : NameKind},
    (names.map fun (n, k) => if (k == NameKind.free && sc.kind == .function && sc.names.lookup n == some .cell) then (n, NameKind.cell) else (n, k)).lookup x = some k →
    ∃ k', names.lookup x = some k' ∧ (k = k' ∨ (k' = .free ∧ k = .cell))
  | [], _, _, h => by simp at h
  | (n, k₀) :: r, x, k, h => by
    have ih := @lookup_relS sc r x k
    have h' : List.lookup x ((if (k₀ == NameKind.free && sc.kind == .function && sc.names.lookup n == some .cell) = true then (n, NameKind.cell) else (n, k₀)) :: (r.map _)) = some k := h
    cases hx : x == n with
    | true =>
      simp only [List.lookup_cons, hx]
      by_cases hc : (k₀ == NameKind.free && sc.kind == .function && sc.names.lookup n == some .cell) = true
      · rw [if_pos hc] at h'
        simp only [List.lookup_cons, hx] at h'
        cases h'
        simp only [Bool.and_eq_true, beq_iff_eq] at hc
        exact ⟨k₀, rfl, .inr ⟨hc.1.1, rfl⟩⟩
      · rw [if_neg hc] at h'
        simp only [List.lookup_cons, hx] at h'
        cases h'
        exact ⟨_, rfl, .inl rfl⟩
    | false =>
      simp only [List.lookup_cons, hx]
      by_cases hc : (k₀ == NameKind.free && sc.kind == .function && sc.names.lookup n == some .cell) = true
      · rw [if_pos hc] at h'
        simp only [List.lookup_cons, hx] at h'
        exact ih h'
      · rw [if_neg hc] at h'
        simp only [List.lookup_cons, hx] at h'
        exact ih h'
/-- the names of a comprehension's block: its own (with their places in N), or captured -/
structure BlkOk (N : List Str) (sc scope : Scope) (own : List (Str × Nat)) : Prop where
  kind : scope.kind = .function
  uniq : ∀ y ∈ scope.names, scope.names.lookup y.1 = some y.2
  ix : ∀ p ∈ own, N[p.2]? = some p.1
  free : ∀ y ∈ scope.names, y.2 = .free → sc.names.lookup y.1 = some .cell ∨ sc.names.lookup y.1 = some .free
  own : ∀ y ∈ scope.names, y.2 = .local ∨ y.2 = .cell → y.1 ∈ own.map (·.1) ∨ y.1 ∉ N
/-- the slots of the block's own names forgotten -/
def wipe (σ : St) : List Nat → St
  | [] => σ
  | v :: vs => (wipe σ vs).set v none
theorem wipe_length (σ : St) : ∀ vs : List Nat, (wipe σ vs).length = σ.length
  | [] => rfl
  | v :: vs => by unfold wipe; rw [List.length_set, wipe_length σ vs]
theorem wipe_some {σ : St} {i : Nat} {x : V} : ∀ {vs : List Nat}, (wipe σ vs)[i]? = some (some x) → σ[i]? = some (some x) ∧ i ∉ vs
  | [], h => ⟨h, by simp⟩
  | v :: vs, h => by
    unfold wipe at h
    by_cases hi : v = i
    · subst hi
      by_cases hv : v < (wipe σ vs).length
      · rw [List.getElem?_set_self hv] at h; cases h
      · rw [List.getElem?_eq_none (by simpa using hv)] at h; cases h
    · rw [List.getElem?_set_ne hi] at h
      obtain ⟨h1, h2⟩ := wipe_some h
      exact ⟨h1, by simp only [List.mem_cons, not_or]; exact ⟨fun e => hi e.symm, h2⟩⟩

/-- the context of a block that starts at s, its iterator's objects at fp -/
abbrev Cx.blk (X : Cx) (s : Shared) (H : Hp) (scope : Scope) (cenv : Env) (fp : List Addr) : Cx := { X with s_0 := s, H_0 := H, env := cenv, outer := X.stack, ex := fp, fn := fun x => scope.names.lookup x == some .cell, pn := [], xe := fun _ _ => False }
section
variable {X : Cx} {pins : List (Addr × Obj)} {σ : St} {H : Hp} {s : Shared}
theorem block_start {scope : Scope} {own : List (Str × Nat)} {fp : List Addr} (I : Inv X pins σ H s) (ok : BlkOk X.N X.env.scope scope own) (hN : X.N.Nodup) (hfp : ∀ b ∈ fp, FpOk X pins H b ∧ b < s.heap.objs.size) :
    Inv (X.blk s H scope (compEnvC scope (cellsFrom (s.heap.objs.size + 1) scope.names (cloFrom X.env.cells scope.names [])) s.heap.objs.size X.env) fp) [] (wipe σ (own.map (·.2))) H { s with heap := pushCells (s.heap.push { cls := .type "dict", data := .dict #[] }) scope.names } := by
  have hfree : ∀ y ∈ scope.names, y.2 = .free → ∃ c, X.env.cells.lookup y.1 = some c := fun y hy e => by
    rcases ok.free y hy e with k | k
    · exact I.ok.has _ (.inl k)
    · exact I.ok.has _ (.inr k)
  generalize hcenv : compEnvC scope (cellsFrom (s.heap.objs.size + 1) scope.names (cloFrom X.env.cells scope.names [])) s.heap.objs.size X.env = cenv
  have kp : ∀ b o, s.heap.get? b = some o → (pushCells (s.heap.push { cls := .type "dict", data := .dict #[] }) scope.names).get? b = some o := fun b o e => pushCells_keeps _ _ _ _ (Heap.get?_push_of_some _ e)
  have hL : cenv.locals = s.heap.objs.size := by rw [← hcenv]; rfl
  have hcl : cenv.cells = cellsFrom (s.heap.objs.size + 1) scope.names (cloFrom X.env.cells scope.names []) := by rw [← hcenv]; rfl
  have hsc : cenv.scope = relS scope X.env.scope := by rw [← hcenv]; rfl
  rw [← Heap.size_push s.heap { cls := .type "dict", data := .dict #[] }] at hcl
  have cm : ∀ {y c}, (y, c) ∈ cloFrom X.env.cells scope.names [] → X.env.cells.lookup y = some c ∧ c < s.heap.objs.size := fun {y c} hm => by
    rcases cloFrom_mem hm with hm | ⟨h1, rfl⟩
    · cases hm
    · obtain ⟨c, hc⟩ := hfree _ h1 rfl
      rw [hc]
      obtain ⟨w, z⟩ := I.cell _ _ hc
      exact ⟨rfl, z.lt⟩
  have mem : ∀ {y c}, cenv.cells.lookup y = some c → (X.env.cells.lookup y = some c ∧ c < s.heap.objs.size) ∨ (s.heap.objs.size + 1 ≤ c ∧ CellAt (pushCells (s.heap.push { cls := .type "dict", data := .dict #[] }) scope.names) c none) := fun {y c} e => by
    rw [hcl] at e
    rcases cells_mem (PySem.mem_of_lookup e) with hm | ⟨_, h2, h3⟩
    · exact .inl (cm hm)
    · rw [Heap.size_push] at h2; exact .inr ⟨h2, h3⟩
  have look : ∀ {y}, scope.names.lookup y = some .free → ∃ c, cenv.cells.lookup y = some c ∧ X.env.cells.lookup y = some c := fun {y} hl => by
    have hy : (y, NameKind.free) ∈ scope.names := PySem.mem_of_lookup hl
    obtain ⟨c', e'⟩ := mem_lookup (cells_acc (names := scope.names) (n := (s.heap.push { cls := .type "dict", data := .dict #[] }).objs.size) (cloFrom_has (cells := X.env.cells) (acc := []) hy))
    rw [← hcl] at e'
    refine ⟨c', e', ?_⟩
    rw [hcl] at e'
    rcases cells_mem (PySem.mem_of_lookup e') with hm | ⟨h1, _, _⟩
    · exact (cm hm).1
    · have := ok.uniq _ h1
      rw [hl] at this; cases this
  have okB : (X.blk s H scope cenv fp).Ok := by
    refine ⟨I.ok.mod, by show cenv.scope.kind = _; rw [hsc]; exact ok.kind, by show cenv.globals = _; rw [← hcenv]; exact I.ok.glob, by show cenv.builtins = _; rw [← hcenv]; exact I.ok.blt, by show s.heap.objs.size ≤ cenv.locals; rw [hL]; exact Nat.le_refl _,
      fun y z c e1 e2 => ?_, fun y hy => ?_, fun y c z e => ?_, I.ok.hd, I.ok.frames, .inl rfl, fun b hb => ⟨?_, fun y c e z => ?_⟩, I.bs, Nat.le_trans I.ok.bsz I.sz, fun b o e hb => ?_, fun b hb z => ?_, I.stack, I.stkFree⟩
    · have e1 : cenv.cells.lookup y = some c := e1
      have e2 : cenv.cells.lookup z = some c := e2
      rw [hcl] at e1 e2
      refine cells_inj (fun p hp => ?_) (fun y z c a b => I.ok.inj y z c (cm a).1 (cm b).1) (PySem.mem_of_lookup e1) (PySem.mem_of_lookup e2)
      rw [Heap.size_push]
      exact Nat.lt_succ_of_lt (cm (y := p.1) (c := p.2) hp).2
    · show ∃ c, cenv.cells.lookup y = some c
      have key : ∀ k, cenv.kindOf y = some k → (k = .cell ∨ k = .free) → ∃ c, cenv.cells.lookup y = some c := fun k hk hk' => by
        unfold Env.kindOf at hk
        rw [hsc] at hk
        obtain ⟨k', e, r⟩ := lookup_relS hk
        have : k' = .cell ∨ k' = .free := by
          rcases r with rfl | ⟨rfl, _⟩
          · exact hk'
          · exact .inr rfl
        rcases this with rfl | rfl
        · obtain ⟨c, hm⟩ := cells_has (n := (s.heap.push { cls := .type "dict", data := .dict #[] }).objs.size) (acc := cloFrom X.env.cells scope.names []) (PySem.mem_of_lookup e)
          obtain ⟨c', e'⟩ := mem_lookup hm
          exact ⟨c', by rw [hcl]; exact e'⟩
        · obtain ⟨c, h1, _⟩ := look e
          exact ⟨c, h1⟩
      rcases hy with hy | hy
      · exact key _ hy (.inl rfl)
      · exact key _ hy (.inr rfl)
    · have z : (scope.names.lookup y == some NameKind.cell) = true := z
      have z : scope.names.lookup y = some .cell := by simpa using z
      have e : cenv.cells.lookup y = some c := e
      rw [hcl] at e
      rcases cells_mem (PySem.mem_of_lookup e) with hm | ⟨_, h2, _⟩
      · rcases cloFrom_mem hm with hm | ⟨h1, _⟩
        · cases hm
        · have q := ok.uniq _ h1
          rw [z] at q; cases q
      · rw [Heap.size_push] at h2
        exact Nat.le_of_succ_le h2
    · show b ≠ cenv.locals
      rw [hL]; exact Nat.ne_of_lt (hfp b hb).2
    · have e : cenv.cells.lookup y = some c := e
      rcases mem e with ⟨h1, _⟩ | ⟨h1, _⟩
      · exact (hfp b hb).1.2.2.2.2.1 y c h1 z
      · have h2 : s.heap.objs.size + 1 ≤ b := by rw [← z]; exact h1
        exact absurd (Nat.lt_of_lt_of_le (hfp b hb).2 (Nat.le_of_succ_le h2)) (Nat.lt_irrefl _)
    · rcases (hfp b hb).1.2.2.2.1 with z | z
      · exact I.ok.noex b o e z
      · exact absurd (Nat.lt_of_lt_of_le (Heap.lt_size e) (Nat.le_trans I.ok.bsz z)) (Nat.lt_irrefl _)
    · rcases List.mem_cons.mp (I.stkSub b z) with z | z
      · exact (hfp b hb).1.2.1 z
      · exact (hfp b hb).1.2.2.1 z
  refine ⟨okB, rfl, I.bare, Un.kept kp, ⟨fun _ => none, ?_, fun i y av e1 e2 e3 => ?_⟩, fun y c e => ?_, ?_, fun y c e => ?_, fun p hp => ?_, I.hok.kept kp, by rw [wipe_length]; exact I.len⟩
  · show Heap.Ns _ cenv.locals _
    rw [hL]
    exact Heap.Ns.keeps (Heap.Ns.new ..) fun b o e => pushCells_keeps _ _ _ _ e
  · obtain ⟨e2, hne⟩ := wipe_some e2
    have hfr : scope.names.lookup y = some .free ∧ (cenv.kindOf y = some .cell ∨ cenv.kindOf y = some .free) := by
      have key : ∀ k, cenv.scope.names.lookup y = some k → k = .local ∨ k = .cell ∨ k = .free → scope.names.lookup y = some .free ∧ (cenv.kindOf y = some .cell ∨ cenv.kindOf y = some .free) := fun k hk hk' => by
        have hk0 := hk
        rw [hsc] at hk
        obtain ⟨k', e, r⟩ := lookup_relS hk
        have no : ¬ (k' = .local ∨ k' = .cell) := fun hh => by
          rcases ok.own _ (PySem.mem_of_lookup e) hh with e' | e'
          · obtain ⟨p, hp, hpy⟩ := List.mem_map.mp e'
            have e3 := ok.ix p hp
            have : p.1 = y := hpy
            rw [this] at e3
            exact hne (List.mem_map.mpr ⟨p, hp, nodup_ix hN e3 e1⟩)
          · exact e' (List.mem_of_getElem? e1)
        rcases r with rfl | ⟨rfl, rfl⟩
        · rcases hk' with rfl | rfl | rfl
          · exact absurd (.inl rfl) no
          · exact absurd (.inr rfl) no
          · exact ⟨e, .inr hk0⟩
        · exact ⟨e, .inl hk0⟩
      have e3 : Vis cenv.scope y := e3
      rcases e3 with e3 | e3 | e3
      · exact key _ e3 (.inl rfl)
      · exact key _ e3 (.inr (.inl rfl))
      · exact key _ e3 (.inr (.inr rfl))
    obtain ⟨m, hn, hl⟩ := I.loc
    have hvis : Vis X.env.scope y := (ok.free _ (PySem.mem_of_lookup hfr.1) rfl).elim (fun k => .inr (.inl k)) (fun k => .inr (.inr k))
    obtain ⟨w, r, q⟩ := hl i y av e1 e2 hvis
    refine ⟨w, r, .inr ⟨hfr.2, ?_⟩⟩
    obtain ⟨c, h1, h2⟩ := look hfr.1
    rcases q with ⟨k, _⟩ | ⟨_, c', e', z⟩
    · have k : X.env.scope.names.lookup y = some .local := k
      rcases ok.free _ (PySem.mem_of_lookup hfr.1) rfl with k' | k' <;> rw [show X.env.scope.names.lookup y = _ from k'] at k <;> cases k
    · rw [h2] at e'; cases e'
      exact ⟨c, h1, z.keeps kp⟩
  · have e : cenv.cells.lookup y = some c := e
    rcases mem e with ⟨h1, _⟩ | ⟨_, z⟩
    · obtain ⟨w, z⟩ := I.cell y c h1
      exact ⟨w, z.keeps kp⟩
    · exact ⟨_, z⟩
  · show H cenv.locals = none
    rw [hL]; exact I.hok.fresh (Nat.le_refl _)
  · have e : cenv.cells.lookup y = some c := e
    rcases mem e with ⟨h1, _⟩ | ⟨h1, _⟩
    · exact I.freeC y c h1
    · exact I.hok.fresh (Nat.le_of_succ_le h1)
  · exact absurd (show p ∈ ([] : List (Addr × Obj)) ++ [] from hp) (by simp)

/-- an item appended to a tracked list -/
theorem app_ok {E : Value → Shared → Prop} {D : Addr} {xs : List V} {y : V} {v : Value} {Q : Value → Shared → Prop} (I : Inv X pins σ H s) (hD : H D = some (.lst xs)) (hz : xs.length < sizeLine) (r : RelV y v)
    (h : ∀ s', Inv X pins σ (upd H D (.lst (xs ++ [y]))) s' → Q .none s') : wpAny (model X.prog X.w) X.A (call (.builtin "list.append") [.ref D, v]) Q E s := by
  obtain ⟨hz', its, n, ri, e⟩ := I.hok D _ hD
  have hl := ri.length
  refine append_at (hsz := by rw [List.size_toArray]; omega) e fun h' sb ho' => ?_
  refine h { s with heap := h' } (I.write (t' := s.toks) (by rw [hD]; trivial) (.inl rfl) (fun b u hb q => (sb.2 b hb).trans q) ⟨_, ho'⟩ ⟨by rw [List.length_append]; exact hz, its ++ [v], n + 1, ri.append (.cons r .nil), ?_⟩)
  rw [ho']
  simp

/-- a clause's tests -/
def PTs (X : Cx) (ifs : List Expr) (t : TT) : Prop :=
  ∀ (pins : List (Addr × Obj)) (s : Shared) (σ : St) (H : Hp) (Q : Bool → Hp → Prop), Inv X pins σ H s → t σ H Q →
    wpAny (model X.prog X.w) X.A (forIn ifs true fun c r => if r = true then do let ok ← isTrue c X.env (eval c X.env); pure (ForInStep.yield ok) else pure (ForInStep.yield r)) (TP X pins σ Q) X.xe s
def tYes : TT := fun _ H Q => Q true H
theorem pts_nil : PTs X [] tYes := fun _ _ _ H _ I h => wpAny_tests_nil ⟨H, I, h⟩
theorem pts_one {c : Expr} {t : TT} (h : PT X c t) : PTs X [c] t := fun pins s σ H Q I hw => wpAny_tests_one (h pins s σ H Q I hw)
end

theorem thnF {α : Type} {t : Sem α} {Q Q' : α → Shared → Prop} {M : Model} {A : Around} {E : Value → Shared → Prop} {s : Shared} (h : wpAny M A t Q (fun _ _ => False) s) (hQ : ∀ a s, Q a s → Q' a s) : wpAny M A t Q' E s := wpAny_mono h hQ fun _ _ z => False.elim z

/-- the loop of a list comprehension's block, the target of any form (codeAny_compLoop_tests asks a target that no tuple goes to; statement and proof follow it, PyProof/CompMap.lean:41-61, with the step letOwnedTupleGo kept) -/
theorem compLoop_any {prog : Program} {w : World} {A : Around} {R : Result → Shared → Prop} {s : Shared} {elt target iter : Expr} {ifs : List Expr} {scope : Scope} {pos : Pos} {it acc : Value} {env : Env} (I : Nat → Shared → Prop)
    (turn : ∀ n s, I n s → wpAny (model prog w) A (pyNext it) (fun r s₁ => match r with
      | none => R (.ok .next) s₁
      | some v => wpAny (model prog w) A (letOwnedTupleGo target it v) (fun _ s₁' => wpAny (model prog w) A (assign target env v) (fun _ s₂ =>
          wpAny (model prog w) A (forIn ifs true fun c r => if r = true then do let ok ← isTrue c env (eval c env); pure (ForInStep.yield ok) else pure (ForInStep.yield r)) (fun ok s₃ =>
            if ok = true then wpAny (model prog w) A (eval elt env) (fun x s₄ =>
              wpAny (model prog w) A (call (.builtin "list.append") [acc, x]) (fun _ s₅ => ∃ m, m < n ∧ I m s₅) (notedBy (model prog w) A env fun e s' => R (.error e) s') s₄) (notedBy (model prog w) A env fun e s' => R (.error e) s') s₃
            else ∃ m, m < n ∧ I m s₃) (notedBy (model prog w) A env fun e s' => R (.error e) s') s₂) (notedBy (model prog w) A env fun e s' => R (.error e) s') s₁') (notedBy (model prog w) A env fun e s' => R (.error e) s') s₁) (notedBy (model prog w) A env fun e s' => R (.error e) s') s)
    (n : Nat) (h : I n s) :
    codeAny (model prog w) A (.compLoop (.ListComp elt [⟨target, iter, ifs, 0⟩] scope pos) 0 it acc env) R s := by
  refine codeAny_loop rfl I (fun n s hI => ?_) n h
  show wpAny _ A ((compTurn (.ListComp elt [⟨target, iter, ifs, 0⟩] scope pos) 0 it acc env).onRaise (fun x => do noteFrame x env; theTreesLotGoes x)) _ _ s
  refine wpAny_noted ?_
  rw [compTurn_list]
  refine wpAny_bind (wpAny_standAt (wpAny_bind (wpAny_mono (turn n s hI) (fun r s₁ h₁ => ?_) fun _ _ h' => h')))
  cases r with
  | none => exact wpAny_pure h₁
  | some v =>
    refine wpAny_bind (wpAny_mono h₁ (fun _ s₁' h₁' => ?_) fun _ _ h' => h')
    refine wpAny_bind (wpAny_mono h₁' (fun _ s₂ h₂ => wpAny_bind (wpAny_mono h₂ (fun ok s₃ h₃ => ?_) fun _ _ h' => h')) fun _ _ h' => h')
    cases ok with
    | false => exact wpAny_pure ⟨rfl, h₃⟩
    | true =>
      exact wpAny_bind (wpAny_bind (wpAny_mono h₃ (fun x s₄ h₄ => wpAny_bind (wpAny_mono h₄ (fun _ s₅ h₅ => wpAny_pure (wpAny_pure ⟨rfl, h₅⟩)) fun _ _ h' => h')) fun _ _ h' => h'))

section
variable {X : Cx}
/-- [elt for target in iter if ..]: D the new list; W by the turn and a measure, Nx what a turn is to reach -/
def tLc (wi : TI) (g : TG) (tt : TT) (te : TE) (vs : List Nat) : TE := fun σ H Q => wi σ H fun J H1 => ∀ D, H1 D = none → ∃ W : Nat → Nat → Hp → Prop, (∃ m, W 0 m (upd H1 D (.lst []))) ∧ ∀ i m H, W i m H →
  (J.stop i H ∧ Q (.ref D) H) ∨ (J.go i H ∧ ∃ Nx : Hp → Prop, (∀ H', Nx H' → ∃ m', m' < m ∧ W (i + 1) m' H') ∧ ∀ x H', J.yld i H x H' → g x (wipe σ vs) H' fun σ2 H2 => wipe σ2 vs = wipe σ vs ∧ tt σ2 H2 fun b H3 =>
    if b = true then te σ2 H3 fun y H4 => ∃ acc, H4 D = some (.lst acc) ∧ acc.length < sizeLine ∧ Nx (upd H4 D (.lst (acc ++ [y]))) else Nx H3)
theorem lc_core {pins : List (Addr × Obj)} {s : Shared} {σ : St} {H : Hp} {Q : VK} {elt tg iter : Expr} {ifs : List Expr} {scope : Scope} {own : List (Str × Nat)} {pos pos' : Pos} {wi : TI} {g : TG} {tt : TT} {te : TE} {use : Option (Value → Sem Unit)} {Qf : Value → Shared → Prop}
    (hc : X.calm = true) (hN : X.N.Nodup) (I : Inv X pins σ H s) (hi : PI X tg iter wi) (ok : BlkOk X.N X.env.scope scope own)
    (hg : ∀ (s : Shared) (H : Hp) (C : Addr) (cl : List (Str × Addr)) (fp : List Addr), PG (X.blk s H scope (compEnvC scope cl C X.env) fp) tg g) (ht : ∀ (s : Shared) (H : Hp) (C : Addr) (cl : List (Str × Addr)) (fp : List Addr), PTs (X.blk s H scope (compEnvC scope cl C X.env) fp) ifs tt)
    (he : ∀ (s : Shared) (H : Hp) (C : Addr) (cl : List (Str × Addr)) (fp : List Addr), PE (X.blk s H scope (compEnvC scope cl C X.env) fp) elt te) (hs : ∀ x, foldedSetIterable iter X.env x = pure x)
    (h : tLc wi g tt te (own.map (·.2)) σ H Q)
    (hRR : ∀ D C s' m H', Inv X pins σ H' s' → Q (.ref D) H' → s'.heap.Ns C m → FpOk X pins H' C → compPost (model X.prog X.w) X.A X.xe use Qf (.ref D) C (.ok .next) s') :
    wpAny (model X.prog X.w) X.A (comprehension (.ListComp elt [⟨tg, iter, ifs, 0⟩] scope pos) scope X.env pos' (newList []) false (eval iter X.env) use) Qf X.xe s := by
  have hfree : ∀ y ∈ scope.names, y.2 = .free → ∃ c, X.env.cells.lookup y.1 = some c := fun y hy e => by
    rcases ok.free y hy e with k | k
    · exact I.ok.has _ (.inl k)
    · exact I.ok.has _ (.inr k)
  refine wpAny_comprehension_free (use := use) rfl hs (closure_ok hfree) ok.kind (fun y hy e => by rw [ok.uniq y hy, e])
    (thn (hi pins s σ H _ I h) fun xv s1 hx => thn hx fun itv s2 h2 => ?_)
  obtain ⟨it, fp, tn, J, H2, e, I2, T, st2, f2, q⟩ := h2
  subst e
  refine wpAny_newObj_type (newEnv_comp ?_) (by show 0 ≤ sizeLine; decide)
  generalize hD : s2.heap.objs.size = D
  have hDn : H2 D = none := I2.hok.fresh (Nat.le_of_eq hD)
  obtain ⟨W, ⟨m0, w0⟩, turn⟩ := q D hDn
  -- the new list
  generalize hs3 : ({ s2 with heap := s2.heap.push { cls := .type "list", data := .seq ([] : List Value).toArray } } : Shared) = s3
  have I3 : Inv X pins σ (upd H2 D (.lst [])) s3 := by
    rw [← hs3]
    refine I2.laid (t' := s2.toks) (fun b o e => Heap.get?_push_of_some _ e) (Nat.le_of_eq hD) ⟨Nat.zero_le _, [], 0, .nil, ?_⟩
    rw [← hD]
    exact Heap.get?_push_size _ rfl
  have h3 : s3.heap = s2.heap.push { cls := .type "list", data := .seq ([] : List Value).toArray } := by rw [← hs3]
  have sz : ∀ b ∈ fp, b < s2.heap.objs.size := fun b hb => by
    obtain ⟨o, e, _⟩ := T.obj _ _ st2 b hb
    exact Heap.lt_size e
  have f3 : ∀ b ∈ fp, FpOk X pins (upd H2 D (.lst [])) b ∧ b < s3.heap.objs.size := fun b hb => by
    have hlt := sz b hb
    refine ⟨⟨?_, (f2 b hb).2⟩, by rw [h3, Heap.size_push]; exact Nat.lt_succ_of_lt hlt⟩
    rw [upd_ne (by rw [← hD]; exact Nat.ne_of_lt hlt)]
    exact (f2 b hb).1
  have st3 : tn 0 s3.heap := T.keep _ _ _ st2 fun b _ o e => by rw [h3]; exact Heap.get?_push_of_some _ e
  have I4 := block_start I3 ok hN f3
  have pg := hg s3 (upd H2 D (.lst [])) s3.heap.objs.size (cellsFrom (s3.heap.objs.size + 1) scope.names (cloFrom X.env.cells scope.names [])) fp
  have pt := ht s3 (upd H2 D (.lst [])) s3.heap.objs.size (cellsFrom (s3.heap.objs.size + 1) scope.names (cloFrom X.env.cells scope.names [])) fp
  have pe := he s3 (upd H2 D (.lst [])) s3.heap.objs.size (cellsFrom (s3.heap.objs.size + 1) scope.names (cloFrom X.env.cells scope.names [])) fp
  show codeAny _ _ (.compStart (.ListComp elt [⟨tg, iter, ifs, 0⟩] scope pos) 0 (.ref it) (.ref D) (compEnvC scope (cellsFrom (s3.heap.objs.size + 1) scope.names (cloFrom X.env.cells scope.names [])) s3.heap.objs.size X.env)) (compPost (model X.prog X.w) X.A X.xe use Qf (.ref D) s3.heap.objs.size) { s3 with heap := pushCells (s3.heap.push { cls := .type "dict", data := .dict #[] }) scope.names }
  have nfp : ∀ b ∈ fp, (upd H2 D (.lst [])) b = none := fun b hb => (f3 b hb).1.1
  generalize hce : compEnvC scope (cellsFrom (s3.heap.objs.size + 1) scope.names (cloFrom X.env.cells scope.names [])) s3.heap.objs.size X.env = ce at I4 pg pt pe ⊢
  have cL : ce.locals = s3.heap.objs.size := by subst hce; rfl
  generalize hH3 : upd H2 D (.lst []) = H3 at I3 I4 pg pt pe w0 nfp f3
  generalize hs4 : ({ s3 with heap := pushCells (s3.heap.push { cls := .type "dict", data := .dict #[] }) scope.names } : Shared) = s4 at I4 ⊢
  have st4 : tn 0 s4.heap := T.keep _ _ _ st3 fun b _ o e => by rw [← hs4]; exact pushCells_keeps _ _ _ _ (Heap.get?_push_of_some _ e)
  have stat : ∀ {σ' : St} {H' : Hp} {s' : Shared}, Inv (X.blk s3 H3 scope ce fp) [] σ' H' s' → (∀ b ∈ fp, H' b = none) → ∀ b ∈ fp, FpOk (X.blk s3 H3 scope ce fp) [] H' b := fun {σ' H' s'} I' hn b hb =>
    ⟨hn b hb, (I'.ok.exf b hb).1, I'.ok.exfs b hb, .inl hb, fun x c e => (I'.ok.exf b hb).2 x c e, fun p hp => absurd (show p ∈ ([] : List (Addr × Obj)) ++ [] from hp) (by simp)⟩
  have loop : codeAny (model X.prog X.w) X.A (.compLoop (.ListComp elt [⟨tg, iter, ifs, 0⟩] scope pos) 0 (.ref it) (.ref D) ce) (compPost (model X.prog X.w) X.A X.xe use Qf (.ref D) s3.heap.objs.size) s4 := by
    refine compLoop_any (fun n s' => ∃ i H', Inv (X.blk s3 H3 scope ce fp) [] (wipe σ (own.map (·.2))) H' s' ∧ tn i s'.heap ∧ (∀ b ∈ fp, H' b = none) ∧ W i n H') ?_ m0 ⟨0, H3, I4, st4, nfp, w0⟩
    rintro n s5 ⟨i, H5, I5, st5, n5, w5⟩
    rcases turn i n H5 w5 with ⟨stop, qq⟩ | ⟨go, Nx, hNx, step⟩
    · have td := T.done (X.blk s3 H3 scope ce fp) rfl rfl rfl hc i [] s5 _ H5 (fun _ _ => False) I5 (stat I5 n5) st5 stop
      refine thnF td fun r s6 ⟨hr, I6⟩ => ?_
      subst hr
      -- back in the def's context
      have I7 : Inv X pins σ H5 s6 := I3.call' (ch := fp) I6.os I6.base I6.hok I6.bare fun b hb => ⟨(f3 b hb).1.2.2.2.1, (f3 b hb).1.2.1, (f3 b hb).1.2.2.2.2.1, (f3 b hb).1.2.2.2.2.2⟩
      have nC : H5 s3.heap.objs.size = none := by
        have z : H5 ce.locals = none := I6.free
        rw [cL] at z
        exact z
      obtain ⟨m, hn, _⟩ := I6.loc
      have hn : s6.heap.Ns ce.locals m := hn
      rw [cL] at hn
      exact hRR D s3.heap.objs.size s6 m H5 I7 qq hn (I3.fpOk (Nat.le_refl _) nC)
    · have ti := T.item (X.blk s3 H3 scope ce fp) rfl rfl rfl hc i [] s5 _ H5 (fun _ _ => False) I5 (stat I5 n5) st5 go
      refine thnF ti fun r s6 ⟨u, hr, h6⟩ => ?_
      subst hr
      refine thnF h6 fun _ s7 ⟨x, H7, I7, r7, y7, st7, n7⟩ => ?_
      have I7' := I7.pinned (stat I7 n7) (T.obj _ _ st7)
      refine thnF (pg _ s7 _ H7 x u _ I7' r7 (step x H7 y7)) fun _ s8 ⟨σ8, H8, I8, hw8, q8⟩ => ?_
      refine thnF (pt _ s8 σ8 H8 _ I8 q8) fun b s9 ⟨H9, I9, q9⟩ => ?_
      -- the turn's end
      have fin : ∀ {s' : Shared} {H' : Hp}, Inv (X.blk s3 H3 scope ce fp) ([] ++ pinsAt fp s7.heap) σ8 H' s' → Nx H' → ∃ m, m < n ∧ ∃ i H', Inv (X.blk s3 H3 scope ce fp) [] (wipe σ (own.map (·.2))) H' s' ∧ tn i s'.heap ∧ (∀ b ∈ fp, H' b = none) ∧ W i m H' := fun {s' H'} I' nx => by
        obtain ⟨m', hm, w'⟩ := hNx H' nx
        have pin' : ∀ b ∈ fp, ∀ o, s7.heap.get? b = some o → s'.heap.get? b = some o ∧ H' b = none := fun b hb o e =>
          let z := I'.pin (b, o) (List.mem_append_right _ (List.mem_append_right _ (mem_pinsAt hb e)))
          ⟨z.1, z.2.1⟩
        have hl : (wipe σ (own.map (·.2))).length = σ8.length := by rw [← hw8, wipe_length]
        refine ⟨m', hm, i + 1, H', (I'.unpinned (pins := [])).weak hl (fun j v e => ?_), T.keep _ _ _ st7 fun b hb o e => (pin' b hb o e).1, fun b hb => ?_, w'⟩
        · rw [← hw8] at e
          exact (wipe_some e).1
        · obtain ⟨o, e, _⟩ := T.obj _ _ st7 b hb
          exact (pin' b hb o e).2
      cases b with
      | false =>
        simp only [Bool.false_eq_true, if_false] at q9 ⊢
        exact fin I9 q9
      | true =>
        simp only [if_true] at q9 ⊢
        refine thnF (pe _ s9 σ8 H9 _ I9 q9) fun z s10 ⟨yv, H10, I10, r10, acc, hD10, hz10, nx⟩ => ?_
        exact app_ok (X := X.blk s3 H3 scope ce fp) I10 hD10 hz10 r10 fun s11 I11 => fin I11 nx
  exact codeAny_compStart_list loop (T.self X.A 0 _ _ _ st4 loop)
/-- as a value -/
theorem pe_lc {elt tg iter : Expr} {ifs : List Expr} {scope : Scope} {own : List (Str × Nat)} {pos : Pos} {wi : TI} {g : TG} {tt : TT} {te : TE} (hc : X.calm = true) (hN : X.N.Nodup) (hi : PI X tg iter wi) (ok : BlkOk X.N X.env.scope scope own)
    (hg : ∀ (s : Shared) (H : Hp) (C : Addr) (cl : List (Str × Addr)) (fp : List Addr), PG (X.blk s H scope (compEnvC scope cl C X.env) fp) tg g) (ht : ∀ (s : Shared) (H : Hp) (C : Addr) (cl : List (Str × Addr)) (fp : List Addr), PTs (X.blk s H scope (compEnvC scope cl C X.env) fp) ifs tt)
    (he : ∀ (s : Shared) (H : Hp) (C : Addr) (cl : List (Str × Addr)) (fp : List Addr), PE (X.blk s H scope (compEnvC scope cl C X.env) fp) elt te) (hs : ∀ x, foldedSetIterable iter X.env x = pure x := by intro _; rfl) :
    PE X (.ListComp elt [⟨tg, iter, ifs, 0⟩] scope pos) (tLc wi g tt te (own.map (·.2))) := by
  intro pins s σ H Q I h
  rw [eval_ListComp]
  refine lc_core hc hN I hi ok hg ht he hs h fun D C s' m H' I' q hn f => ⟨m, hn, fun h'' sb => ?_⟩
  obtain ⟨f0, f1, f2, f3, f4, f5⟩ := f
  exact ⟨.ref D, H', I'.turned (t' := s'.toks) (fun b o hb e => (sb.2 b hb).trans e) f0 f1 f3 f4 f5, rfl, q⟩
/-- name = [..] on one line, the name a local -/
theorem ps_setLc {i : Nat} {y : Str} {py : Pos} {elt tg iter : Expr} {ifs : List Expr} {scope : Scope} {own : List (Str × Nat)} {pos spos : Pos} {wi : TI} {g : TG} {tt : TT} {te : TE} (hc : X.calm = true) (hN : X.N.Nodup) (hy : X.N[i]? = some y) (hyl : X.env.scope.names.lookup y = some .local)
    (hsw : swapsWith (.ListComp elt [⟨tg, iter, ifs, 0⟩] scope pos) (some (.Name y py)) spos.line X.env = pure true) (hi : PI X tg iter wi) (ok : BlkOk X.N X.env.scope scope own)
    (hg : ∀ (s : Shared) (H : Hp) (C : Addr) (cl : List (Str × Addr)) (fp : List Addr), PG (X.blk s H scope (compEnvC scope cl C X.env) fp) tg g) (ht : ∀ (s : Shared) (H : Hp) (C : Addr) (cl : List (Str × Addr)) (fp : List Addr), PTs (X.blk s H scope (compEnvC scope cl C X.env) fp) ifs tt)
    (he : ∀ (s : Shared) (H : Hp) (C : Addr) (cl : List (Str × Addr)) (fp : List Addr), PE (X.blk s H scope (compEnvC scope cl C X.env) fp) elt te) (hs : ∀ x, foldedSetIterable iter X.env x = pure x := by intro _; rfl) :
    PS X (.Assign [.Name y py] (.ListComp elt [⟨tg, iter, ifs, 0⟩] scope pos) spos) (tAsg (tLc wi g tt te (own.map (·.2))) (gName i)) := by
  intro pins s σ H D I h
  rw [exec_Assign_Name_used _ _ _ _ hsw]
  refine wpAny_bind (wpAny_standAt (wpAny_bind ?_))
  show wpAny _ X.A (do let _ ← comprehension (.ListComp elt [⟨tg, iter, ifs, 0⟩] scope pos) scope X.env (firstIterPos [⟨tg, iter, ifs, 0⟩] pos) (newList []) false (eval iter X.env) (some (assign (.Name y py) X.env))) _ _ s
  have h : tLc wi g tt te (own.map (·.2)) σ H (fun x H1 => gName i x σ H1 D.nx) := h
  refine wpAny_bind (thn (lc_core (Qf := fun _ s' => SP X pins D .next s') hc hN I hi ok hg ht he hs h fun L C s' m H' I' q hn f => ?_) fun _ s' hq => wpAny_pure (wpAny_pure hq))
  show wpAny _ _ (assign (.Name y py) X.env (.ref L)) _ _ _
  refine wpAny_assign_Name (store_ok2 (v := V.ref L) I' hN hy (.inl hyl) rfl (fun s2 I2 ⟨a, sb, ha⟩ => ?_) (.inr hyl))
  obtain ⟨f0, f1, f2, f3, f4, f5⟩ := f
  have haC : C ≠ a := by
    rcases ha with z | z
    · rw [z]; exact f1
    · exact fun e => f4 y a z e.symm
  refine ⟨m, hn.sameBut sb haC, fun h3 sb3 => ?_⟩
  exact ⟨_, H', I2.turned (t' := s2.toks) (fun b o hb e => (sb3.2 b hb).trans e) f0 f1 f3 f4 f5, q⟩
theorem sw_true {elt : Expr} {gs : List Comprehension} {scope : Scope} {pos py : Pos} {y : Str} {l : Nat} {env : Env} (hk : env.scope.kind = .function) (hy : env.scope.names.lookup y = some .local) (hl : (py.line == pos.line) = true)
    (ha : (scope.names.any fun (n, k) => n == y && (k == .local || k == .cell)) = false) : swapsWith (.ListComp elt gs scope pos) (some (.Name y py)) l env = pure true := by
  have ky : env.kindOf y = some .local := hy
  have hb : env.blockKind = .function := by unfold Env.blockKind; rw [hk]; rfl
  unfold swapsWith
  simp only [hb, ky, ha, Expr.pos, hl]
  rfl
end

/-! ### the forms one uses -/
/-- over a range: Pv by the turn and the heap (the new list at D within) -/
theorem lc_range {lo : Int} {n : Nat} {g : TG} {tt : TT} {te : TE} {vs : List Nat} {σ : St} {H1 : Hp} {D : Addr} {Qd : Hp → Prop} (Pv : Nat → Hp → Prop) (h0 : Pv 0 (upd H1 D (.lst [])))
    (hs : ∀ i H, i < n → Pv i H → g (.int (lo + i)) (wipe σ vs) H fun σ2 H2 => wipe σ2 vs = wipe σ vs ∧ tt σ2 H2 fun b H3 =>
      if b = true then te σ2 H3 fun y H4 => ∃ acc, H4 D = some (.lst acc) ∧ acc.length < sizeLine ∧ Pv (i + 1) (upd H4 D (.lst (acc ++ [y]))) else Pv (i + 1) H3) (hd : ∀ H, Pv n H → Qd H) :
    ∃ W : Nat → Nat → Hp → Prop, (∃ m, W 0 m (upd H1 D (.lst []))) ∧ ∀ i m H, W i m H →
      ((Itr lo n).stop i H ∧ Qd H) ∨ ((Itr lo n).go i H ∧ ∃ Nx : Hp → Prop, (∀ H', Nx H' → ∃ m', m' < m ∧ W (i + 1) m' H') ∧ ∀ x H', (Itr lo n).yld i H x H' → g x (wipe σ vs) H' fun σ2 H2 => wipe σ2 vs = wipe σ vs ∧ tt σ2 H2 fun b H3 =>
        if b = true then te σ2 H3 fun y H4 => ∃ acc, H4 D = some (.lst acc) ∧ acc.length < sizeLine ∧ Nx (upd H4 D (.lst (acc ++ [y]))) else Nx H3) := by
  refine ⟨fun i m H => m = n - i ∧ i ≤ n ∧ Pv i H, ⟨n, by simp, Nat.zero_le _, h0⟩, ?_⟩
  rintro i m H ⟨rfl, hi, p⟩
  by_cases hlt : i < n
  · refine .inr ⟨hlt, Pv (i + 1), fun H' p' => ⟨n - (i + 1), by omega, rfl, hlt, p'⟩, fun x H' y => ?_⟩
    obtain ⟨e, y⟩ := y
    subst e y
    exact hs i _ hlt p
  · have e : i = n := by omega
    subst e
    exact .inl ⟨Nat.le_refl _, hd H p⟩
/-- over a list that the block leaves as it is -/
theorem lc_list {K : PySem.W.Frag} {a : Addr} {xs : List V} {g : TG} {tt : TT} {te : TE} {vs : List Nat} {σ : St} {H1 : Hp} {D : Addr} {Qd : Hp → Prop} (Pv : Nat → Hp → Prop) (h0 : Pv 0 (upd H1 D (.lst []))) (hl : ∀ i H, i ≤ xs.length → Pv i H → SqL K H a xs)
    (hs : ∀ i x H, xs[i]? = some x → Pv i H → g x (wipe σ vs) H fun σ2 H2 => wipe σ2 vs = wipe σ vs ∧ tt σ2 H2 fun b H3 =>
      if b = true then te σ2 H3 fun y H4 => ∃ acc, H4 D = some (.lst acc) ∧ acc.length < sizeLine ∧ Pv (i + 1) (upd H4 D (.lst (acc ++ [y]))) else Pv (i + 1) H3) (hd : ∀ H, Pv xs.length H → Qd H) :
    ∃ W : Nat → Nat → Hp → Prop, (∃ m, W 0 m (upd H1 D (.lst []))) ∧ ∀ i m H, W i m H →
      ((Itl K a).stop i H ∧ Qd H) ∨ ((Itl K a).go i H ∧ ∃ Nx : Hp → Prop, (∀ H', Nx H' → ∃ m', m' < m ∧ W (i + 1) m' H') ∧ ∀ x H', (Itl K a).yld i H x H' → g x (wipe σ vs) H' fun σ2 H2 => wipe σ2 vs = wipe σ vs ∧ tt σ2 H2 fun b H3 =>
        if b = true then te σ2 H3 fun y H4 => ∃ acc, H4 D = some (.lst acc) ∧ acc.length < sizeLine ∧ Nx (upd H4 D (.lst (acc ++ [y]))) else Nx H3) := by
  refine ⟨fun i m H => m = xs.length - i ∧ i ≤ xs.length ∧ Pv i H, ⟨xs.length, by simp, Nat.zero_le _, h0⟩, ?_⟩
  rintro i m H ⟨rfl, hi, p⟩
  have q := hl i H hi p
  by_cases hlt : i < xs.length
  · refine .inr ⟨⟨xs, xs[i], q, by simp [hlt]⟩, Pv (i + 1), fun H' p' => ⟨xs.length - (i + 1), by omega, rfl, hlt, p'⟩, fun x H' y => ?_⟩
    obtain ⟨e, y⟩ := y
    subst e
    exact hs i x _ (y xs q) p
  · have e : i = xs.length := by omega
    subst e
    exact .inl ⟨⟨xs, q, Nat.le_refl _⟩, hd H p⟩
/-- over a tuple -/
theorem lc_tup {K : PySem.W.Frag} {a : Addr} {xs : List V} {g : TG} {tt : TT} {te : TE} {vs : List Nat} {σ : St} {H1 : Hp} {D : Addr} {Qd : Hp → Prop} (Pv : Nat → Hp → Prop) (h0 : Pv 0 (upd H1 D (.lst []))) (hl : ∀ i H, i ≤ xs.length → Pv i H → SqT K H a xs)
    (hs : ∀ i x H, xs[i]? = some x → Pv i H → g x (wipe σ vs) H fun σ2 H2 => wipe σ2 vs = wipe σ vs ∧ tt σ2 H2 fun b H3 =>
      if b = true then te σ2 H3 fun y H4 => ∃ acc, H4 D = some (.lst acc) ∧ acc.length < sizeLine ∧ Pv (i + 1) (upd H4 D (.lst (acc ++ [y]))) else Pv (i + 1) H3) (hd : ∀ H, Pv xs.length H → Qd H) :
    ∃ W : Nat → Nat → Hp → Prop, (∃ m, W 0 m (upd H1 D (.lst []))) ∧ ∀ i m H, W i m H →
      ((Itt K a).stop i H ∧ Qd H) ∨ ((Itt K a).go i H ∧ ∃ Nx : Hp → Prop, (∀ H', Nx H' → ∃ m', m' < m ∧ W (i + 1) m' H') ∧ ∀ x H', (Itt K a).yld i H x H' → g x (wipe σ vs) H' fun σ2 H2 => wipe σ2 vs = wipe σ vs ∧ tt σ2 H2 fun b H3 =>
        if b = true then te σ2 H3 fun y H4 => ∃ acc, H4 D = some (.lst acc) ∧ acc.length < sizeLine ∧ Nx (upd H4 D (.lst (acc ++ [y]))) else Nx H3) := by
  refine ⟨fun i m H => m = xs.length - i ∧ i ≤ xs.length ∧ Pv i H, ⟨xs.length, by simp, Nat.zero_le _, h0⟩, ?_⟩
  rintro i m H ⟨rfl, hi, p⟩
  have q := hl i H hi p
  by_cases hlt : i < xs.length
  · refine .inr ⟨⟨xs, xs[i], q, by simp [hlt]⟩, Pv (i + 1), fun H' p' => ⟨xs.length - (i + 1), by omega, rfl, hlt, p'⟩, fun x H' y => ?_⟩
    obtain ⟨e, y⟩ := y
    subst e
    exact hs i x _ (y xs q) p
  · have e : i = xs.length := by omega
    subst e
    exact .inl ⟨⟨xs, q, Nat.le_refl _⟩, hd H p⟩
def blkC (N : List Str) (sc scope : Scope) (own : List (Str × Nat)) : Bool :=
  (match scope.kind with | .function => true | _ => false) && (scope.names.all fun y => decide (scope.names.lookup y.1 = some y.2)) && (own.all fun p => decide (N[p.2]? = some p.1)) &&
    (scope.names.all fun y => match y.2 with
      | .free => (match sc.names.lookup y.1 with | some .cell => true | some .free => true | _ => false)
      | .local => decide (y.1 ∈ own.map (·.1)) || decide (y.1 ∉ N)
      | .cell => decide (y.1 ∈ own.map (·.1)) || decide (y.1 ∉ N)
      | _ => true)
theorem blkOk_by {N : List Str} {sc scope : Scope} {own : List (Str × Nat)} (h : blkC N sc scope own = true) : BlkOk N sc scope own := by
  unfold blkC at h
  simp only [Bool.and_eq_true, List.all_eq_true, decide_eq_true_eq] at h
  obtain ⟨⟨⟨h1, h2⟩, h3⟩, h4⟩ := h
  refine ⟨?_, h2, h3, fun y hy e => ?_, fun y hy e => ?_⟩
  · split at h1
    · assumption
    · cases h1
  · have q := h4 y hy
    simp only [e] at q
    split at q <;> first | exact .inl (by assumption) | exact .inr (by assumption) | cases q
  · have q := h4 y hy
    rcases e with e | e <;> (simp only [e, Bool.or_eq_true, decide_eq_true_eq] at q; exact q)
end L2

namespace L2
open PySem PySem.Spec PyProof.Rows

section
variable {prog : Program} {w : World} {A : Around} {R : Result → Shared → Prop} {s : Shared} {elt t0 i0 t1 i1 : Expr} {ifs0 ifs1 : List Expr} {scope : Scope} {pos : Pos} {it acc : Value} {env : Env}
end

section
variable {X : Cx}
end
end L2

namespace L2
open PySem PySem.Spec PyProof.Rows

/-! ### lists of pairs as tables -/
section
variable {κ : Type} [DecidableEq κ]
def valV (kvs : List (κ × V)) (k : κ) : Option V := (kvs.find? fun kv => decide (kv.1 = k)).map (·.2)
/-- in its place, or at the end -/
def putK (kvs : List (κ × V)) (k : κ) (v : V) : List (κ × V) :=
  if (kvs.any fun kv => decide (kv.1 = k)) = true then kvs.map (fun kv => if kv.1 = k then (kv.1, v) else kv) else kvs ++ [(k, v)]
def dropK (kvs : List (κ × V)) (k : κ) : List (κ × V) := kvs.filter fun kv => decide (kv.1 ≠ k)

theorem valV_nil {k : κ} : valV ([] : List (κ × V)) k = none := rfl
theorem valV_pos {p : κ × V} {r : List (κ × V)} {k : κ} (e : p.1 = k) : valV (p :: r) k = some p.2 := by simp [valV, List.find?_cons, e]
theorem valV_neg {p : κ × V} {r : List (κ × V)} {k : κ} (e : ¬ p.1 = k) : valV (p :: r) k = valV r k := by simp [valV, List.find?_cons, e]
theorem valV_any (k : κ) : ∀ kvs : List (κ × V), (kvs.any fun kv => decide (kv.1 = k)) = (valV kvs k).isSome
  | [] => rfl
  | p :: r => by
    rw [List.any_cons]
    by_cases e : p.1 = k
    · simp only [valV_pos e, decide_eq_true e, Bool.true_or, Option.isSome_some]
    · rw [valV_neg e, decide_eq_false e, Bool.false_or]; exact valV_any k r
theorem length_putK (kvs : List (κ × V)) (k : κ) (v : V) : (putK kvs k v).length ≤ kvs.length + 1 := by
  unfold putK
  split
  · rw [List.length_map]; omega
  · rw [List.length_append, List.length_cons, List.length_nil]; omega
theorem RelO.isSome_eq {o : Option V} {u : Option Value} (r : RelO o u) : o.isSome = u.isSome := by
  cases o with
  | none => cases u with
    | none => rfl
    | some _ => exact (show False from r).elim
  | some _ => cases u with
    | none => exact (show False from r).elim
    | some _ => rfl
theorem RelO.getD {o : Option V} {u : Option Value} {d : V} {d' : Value} (r : RelO o u) (rd : RelV d d') : RelV (o.getD d) (u.getD d') := by
  cases o with
  | none => cases u with
    | none => exact rd
    | some _ => exact (show False from r).elim
  | some _ => cases u with
    | none => exact (show False from r).elim
    | some _ => exact r

/-- raw tables of the same keys -/
theorem KV.val {kvs : List (κ × V)} {vs : List (κ × Value)} (r : KV kvs vs) (k : κ) : RelO (valV kvs k) (valueAt vs k) := by
  unfold KV at r
  induction r with
  | nil => exact True.intro
  | @cons p q ps qs h t ih =>
    obtain ⟨h1, h2⟩ := h
    by_cases e : p.1 = k
    · have e' : q.1 = k := h1.symm.trans e
      have b : valueAt (q :: qs) k = some q.2 := by simp [valueAt, List.find?_cons, e']
      rw [valV_pos e, b]; exact h2
    · have e' : ¬ q.1 = k := fun z => e (h1.trans z)
      have b : valueAt (q :: qs) k = valueAt qs k := by simp [valueAt, List.find?_cons, e']
      rw [valV_neg e, b]; exact ih
theorem KV.any {kvs : List (κ × V)} {vs : List (κ × Value)} (r : KV kvs vs) (k : κ) : (kvs.any fun kv => decide (kv.1 = k)) = vs.any fun kv => decide (kv.1 = k) := by
  unfold KV at r
  induction r with
  | nil => rfl
  | cons h t ih => rw [List.any_cons, List.any_cons, ih, h.1]
theorem KV.repl {kvs : List (κ × V)} {vs : List (κ × Value)} (r : KV kvs vs) (k : κ) {y : V} {u : Value} (ry : RelV y u) :
    KV (kvs.map fun kv => if kv.1 = k then (kv.1, y) else kv) (vs.map fun kv => if kv.1 = k then (kv.1, u) else kv) := by
  unfold KV at r ⊢
  induction r with
  | nil => exact .nil
  | @cons p q ps qs h t ih =>
    rw [List.map_cons, List.map_cons]
    refine .cons ?_ ih
    obtain ⟨h1, h2⟩ := h
    by_cases e : p.1 = k
    · rw [if_pos e, if_pos (h1.symm.trans e)]; exact ⟨h1, ry⟩
    · rw [if_neg e, if_neg (fun z => e (h1.trans z))]; exact ⟨h1, h2⟩
theorem KV.put {kvs : List (κ × V)} {vs : List (κ × Value)} (r : KV kvs vs) (k : κ) {y : V} {u : Value} (ry : RelV y u) : KV (putK kvs k y) (stored vs k u) := by
  unfold putK stored
  rw [r.any k]
  by_cases e : (vs.any fun kv => decide (kv.1 = k)) = true
  · rw [if_pos e, if_pos e]; exact r.repl k ry
  · rw [if_neg e, if_neg e]; exact Paired.snoc r ⟨rfl, ry⟩
theorem KV.drop {kvs : List (κ × V)} {vs : List (κ × Value)} (r : KV kvs vs) (k : κ) : KV (dropK kvs k) (without vs k) := by
  unfold KV at r ⊢
  unfold dropK without
  induction r with
  | nil => exact .nil
  | @cons p q ps qs h t ih =>
    obtain ⟨h1, h2⟩ := h
    rw [List.filter_cons, List.filter_cons]
    by_cases e : p.1 = k
    · have a : ¬ decide (p.1 ≠ k) = true := by simp [e]
      have b : ¬ decide (q.1 ≠ k) = true := by simp [h1.symm.trans e]
      rw [if_neg a, if_neg b]; exact ih
    · have e' : ¬ q.1 = k := fun z => e (h1.trans z)
      have a : decide (p.1 ≠ k) = true := by simp [e]
      have b : decide (q.1 ≠ k) = true := by simp [e']
      rw [if_pos a, if_pos b]; exact .cons ⟨h1, h2⟩ ih
theorem KV.keys {kvs : List (κ × V)} {vs : List (κ × Value)} (r : KV kvs vs) : kvs.map (·.1) = vs.map (·.1) := by
  unfold KV at r
  induction r with
  | nil => rfl
  | cons h t ih => rw [List.map_cons, List.map_cons, ih, h.1]
theorem KV.length {kvs : List (κ × V)} {vs : List (κ × Value)} (r : KV kvs vs) : kvs.length = vs.length := Paired.length r
theorem dropK_le (kvs : List (κ × V)) (k : κ) : (dropK kvs k).length ≤ kvs.length := List.length_filter_le _ _
end


/-! ### a tracked dict, its keys ints and texts or tuples of these -/
theorem kV_is {P : Program} {w : World} {k : Key} {u : Value} (r : RelV (kV k) u) : (mixKind P w).is k u = true := by
  cases k with
  | inl i => obtain ⟨t, e⟩ := (show ∃ t, u = Value.int i t from r); subst e; exact mixKind_int P w i t
  | inr x => obtain ⟨t, e⟩ := (show ∃ t, u = Value.str x t from r); subst e; exact mixKind_str P w x t
theorem items_are {P : Program} {w : World} : ∀ {ks : List Key} {us : List Value}, Vals (ks.map kV) us → ItemsAre (mixKind P w) ks us
  | [], _, r => by rw [List.map_nil] at r; cases r; exact .nil
  | k :: ks, _, r => by
    rw [List.map_cons] at r
    cases r with
    | cons h t => exact .cons (kV_is h) (items_are t)

/-- raw entries of a dict with tuple keys -/
abbrev KT (H : Hp) : List (List Key × V) → List (List Key × Addr × Value) → Prop := Paired fun p q => p.1 = q.1 ∧ H q.2.1 = some (.tup (p.1.map kV)) ∧ RelV p.2 q.2.2
theorem KT.val {H : Hp} {kvs : List (List Key × V)} {xs : List (List Key × Addr × Value)} (r : KT H kvs xs) (k : List Key) : RelO (valV kvs k) ((atKey xs k).map (·.2)) := by
  induction r with
  | nil => exact True.intro
  | @cons p q ps qs h t ih =>
    obtain ⟨h1, _, h2⟩ := h
    by_cases e : p.1 = k
    · have e' : q.1 = k := h1.symm.trans e
      have b : atKey (q :: qs) k = some q.2 := by simp [atKey, List.find?_cons, e']
      rw [valV_pos e, b]; exact h2
    · have e' : ¬ q.1 = k := fun z => e (h1.trans z)
      have b : atKey (q :: qs) k = atKey qs k := by simp [atKey, List.find?_cons, e']
      rw [valV_neg e, b]; exact ih
theorem KT.repl {H : Hp} {kvs : List (List Key × V)} {xs : List (List Key × Addr × Value)} (r : KT H kvs xs) (k : List Key) {y : V} {u : Value} (ry : RelV y u) :
    KT H (kvs.map fun kv => if kv.1 = k then (kv.1, y) else kv) (xs.map (putAt k u)) := by
  induction r with
  | nil => exact .nil
  | @cons p q ps qs h t ih =>
    rw [List.map_cons, List.map_cons]
    refine .cons ?_ ih
    obtain ⟨h1, h2, h3⟩ := h
    unfold putAt
    by_cases e : p.1 = k
    · rw [if_pos e, if_pos (h1.symm.trans e)]; exact ⟨h1, h2, ry⟩
    · rw [if_neg e, if_neg (fun z => e (h1.trans z))]; exact ⟨h1, h2, h3⟩
theorem KT.put {H : Hp} {kvs : List (List Key × V)} {xs : List (List Key × Addr × Value)} (r : KT H kvs xs) (k : List Key) {b : Addr} {y : V} {u : Value} (hb : H b = some (.tup (k.map kV))) (ry : RelV y u) :
    KT H (putK kvs k y) (storedH xs k b u) := by
  have e : (kvs.any fun kv => decide (kv.1 = k)) = (atKey xs k).isSome := by
    rw [valV_any, (r.val k).isSome_eq, Option.isSome_map]
  unfold putK storedH
  rw [e]
  by_cases q : (atKey xs k).isSome = true
  · rw [if_pos q, if_pos q]; exact r.repl k ry
  · rw [if_neg q, if_neg q]; exact Paired.snoc r ⟨rfl, hb, ry⟩
theorem KT.keeps {H H' : Hp} {kvs : List (List Key × V)} {xs : List (List Key × Addr × Value)} (r : KT H kvs xs) (ht : ∀ b ys, H b = some (.tup ys) → H' b = some (.tup ys)) : KT H' kvs xs :=
  Paired.mapP r fun _ _ z => ⟨z.1, ht _ _ z.2.1, z.2.2⟩

section
variable {P : Program} {w : World} {H : Hp} {h : Heap} {a : Addr}
theorem rd_of {u : HO} (ok : HOk P w H h) (e : Rd H a u) : ObjOk P w H h a u := e.ok ok
theorem dk_rd {kvs : List (Key × V)} (ok : HOk P w H h) (e : Rd H a (.dK kvs)) : kvs.length ≤ sizeLine ∧ (a == sysModules) = false ∧ ∃ vs, KV kvs vs ∧ h.DictOf (mixKind P w) a vs :=
  show ObjOk P w H h a (.dK kvs) from rd_of ok e
theorem dk_of {kvs : List (Key × V)} (ok : HOk P w H h) (e : H a = some (.dK kvs)) : kvs.length ≤ sizeLine ∧ (a == sysModules) = false ∧ ∃ vs, KV kvs vs ∧ h.DictOf (mixKind P w) a vs := dk_rd ok (.inl e)
/-- a tracked tuple of ints and texts is a key -/
theorem key_of {ks : List Key} (ok : HOk P w H h) (e : H a = some (.tup (ks.map kV))) : (tupleKind (mixKind P w)).is h ks a := by
  obtain ⟨_, its, r, o, h1, h2, n, h3⟩ := (show ObjOk P w H h a (.tup (ks.map kV)) from ok a _ e)
  exact ⟨o, its.toArray, n, h1, h2, h3, by simpa using items_are r⟩
theorem dt_rd {kvs : List (List Key × V)} (ok : HOk P w H h) (e : Rd H a (.dT kvs)) : kvs.length ≤ sizeLine ∧ (a == sysModules) = false ∧
    ∃ xs, KT H kvs xs ∧ h.DictOfH (tupleKind (mixKind P w)) a xs := by
  obtain ⟨z, y, xs, r, o, es, ep, h1, h2, h3, h4, h5⟩ := (show ObjOk P w H h a (.dT kvs) from rd_of ok e)
  refine ⟨z, y, xs, r, o, es, ep, h1, h2, h3, h4, fun x hx => ?_, h5⟩
  have all : ∀ {l : List (List Key × V)} {m : List (List Key × Addr × Value)}, KT H l m → ∀ x ∈ m, (tupleKind (mixKind P w)).is h x.1 x.2.1 := by
    intro l m q
    induction q with
    | nil => intro x hx; exact nomatch hx
    | @cons p q ps qs hq t ih =>
      intro x hx
      rcases List.mem_cons.mp hx with e | hx
      · subst e
        exact key_of ok (by rw [← hq.1]; exact hq.2.1)
      · exact ih x hx
  exact all r x hx
theorem dt_of {kvs : List (List Key × V)} (ok : HOk P w H h) (e : H a = some (.dT kvs)) : kvs.length ≤ sizeLine ∧ (a == sysModules) = false ∧
    ∃ xs, KT H kvs xs ∧ h.DictOfH (tupleKind (mixKind P w)) a xs := dt_rd ok (.inl e)
end

/-- what the dict at a holds at the key y -/
def DGet (H : Hp) (a : Addr) (y : V) (r : Option V) : Prop :=
  (∃ kvs k, Rd H a (.dK kvs) ∧ y = kV k ∧ r = valV kvs k) ∨ ∃ kvs k b, Rd H a (.dT kvs) ∧ y = .ref b ∧ H b = some (.tup (k.map kV)) ∧ r = valV kvs k
/-- the heap behind a[y] = v -/
def DPut (H : Hp) (a : Addr) (y v : V) (H' : Hp) : Prop :=
  (∃ kvs k, H a = some (.dK kvs) ∧ y = kV k ∧ kvs.length < sizeLine ∧ H' = upd H a (.dK (putK kvs k v))) ∨
  ∃ kvs k b, H a = some (.dT kvs) ∧ y = .ref b ∧ H b = some (.tup (k.map kV)) ∧ kvs.length < sizeLine ∧ H' = upd H a (.dT (putK kvs k v))
theorem DGet.k {H : Hp} {a : Addr} {kvs : List (Key × V)} {k : Key} (e : H a = some (.dK kvs)) : DGet H a (kV k) (valV kvs k) := .inl ⟨kvs, k, .inl e, rfl, rfl⟩
section
variable {X : Cx} {pins : List (Addr × Obj)} {σ : St} {H : Hp} {s : Shared} {a : Addr} {y v : V} {u r : Value} {o : Option V} {A : Around} {E : Value → Shared → Prop}

theorem Inv.big (I : Inv X pins σ H s) : sysModules < s.heap.objs.size := by
  have h : mainGlobals < s.heap.objs.size := (I.mod.glob.keeps I.bk).lt
  exact Nat.lt_trans (by decide) h

/-- d[y], there -/
theorem d_getItem {Q : Value → Shared → Prop} (hu : A.units + 1 < cLine) (I : Inv X pins σ H s) (g : DGet H a y (some v)) (ry : RelV y u) (h : ∀ w' s', Inv X pins σ H s' → RelV v w' → Q w' s') :
    wpAny (model X.prog X.w) A (getItem (.ref a) u) Q E s := by
  rcases g with ⟨kvs, k, e, ey, l⟩ | ⟨kvs, k, b, e, ey, eb, l⟩
  · subst ey
    obtain ⟨z, hd, vs, rel, dd⟩ := dk_rd I.hok e
    obtain ⟨w', hw, rw'⟩ := RelO.some_of (v := v) (o := valueAt vs k) (by rw [l]; exact rel.val k)
    exact wpAny_getItem_of (kV_is ry) dd.mapOf hw (h w' _ (I.tok _) rw')
  · subst ey
    cases (show u = Value.ref b from ry)
    obtain ⟨z, hd, xs, rel, dd⟩ := dt_rd I.hok e
    obtain ⟨w', hw, rw'⟩ := RelO.some_of (v := v) (o := (atKey xs k).map (·.2)) (by rw [l]; exact rel.val k)
    obtain ⟨p, hp, hp2⟩ := Option.map_eq_some_iff.mp hw
    refine wpAny_getItem_heap (tupleKind_room_in1 hu) (key_of I.hok eb) dd hp ?_
    rw [hp2]
    exact h w' _ (I.tok _) rw'
/-- a dict's object is replaced -/
theorem d_write {h' : Heap} {t' : Nat} {ob : HO} (I : Inv X pins σ H s) (mu : Mut (H a)) (hs : Heap.SameBut a s.heap h') (he : ∃ q, h'.get? a = some q) (new : ObjOk X.prog X.w (upd H a ob) h' a ob) :
    Inv X pins σ (upd H a ob) { s with heap := h', toks := t' } :=
  I.write (x := a) (e := a) mu (.inl rfl) (fun b q hb z => (hs.2 b hb).trans z) he new
theorem dk_new {P : Program} {w : World} {H' : Hp} {h' : Heap} {kvs : List (Key × V)} {vs : List (Key × Value)} (z : kvs.length ≤ sizeLine) (hd : (a == sysModules) = false) (rel : KV kvs vs) (dd : h'.DictOf (mixKind P w) a vs) :
    ObjOk P w H' h' a (.dK kvs) := ⟨z, hd, vs, rel, dd⟩
/-- d[y] = v -/
theorem d_setItem {H' : Hp} {Q : Unit → Shared → Prop} (hu : A.units + 1 < cLine) (I : Inv X pins σ H s) (g : DPut H a y v H') (ry : RelV y u) (rv : RelV v r) (h : ∀ s', Inv X pins σ H' s' → Q () s') :
    wpAny (model X.prog X.w) A (setItem (.ref a) u r) Q E s := by
  rcases g with ⟨kvs, k, e, ey, l, eH⟩ | ⟨kvs, k, b, e, ey, eb, l, eH⟩
  · subst ey eH
    obtain ⟨z, hd, vs, rel, dd⟩ := dk_of I.hok e
    have hz : vs.length ≤ sizeLine := by rw [← rel.length]; exact z
    have hl : (putK kvs k v).length ≤ sizeLine := by have := length_putK kvs k v; omega
    refine wpAny_setItem_pairs (hsz := hz) (kV_is ry) dd fun h' dd' hs => h _ ?_
    have he : ∃ q, h'.get? a = some q := let ⟨q, _, _, hq, _⟩ := dd'; ⟨q, hq⟩
    exact d_write I (by rw [e]; exact True.intro) hs he (dk_new hl hd (rel.put k rv) dd')
  · subst ey eH
    cases (show u = Value.ref b from ry)
    obtain ⟨z, hd, xs, rel, dd⟩ := dt_of I.hok e
    have hz : xs.length ≤ sizeLine := by rw [← Paired.length rel]; exact z
    have hl : (putK kvs k v).length ≤ sizeLine := by have := length_putK kvs k v; omega
    refine wpAny_setItem_heap (hsz := hz) (tupleKind_room_in1 hu) (key_of I.hok eb) dd fun h' dd' hs => h _ ?_
    obtain ⟨q, es, ep, hq, h2, h3, h4, _, h5⟩ := dd'
    refine d_write I (by rw [e]; exact True.intro) hs ⟨q, hq⟩ ⟨hl, hd, _, (rel.put k eb rv).keeps fun c ys ec => ?_, q, es, ep, hq, h2, h3, h4, h5⟩
    rw [upd_ne (ne_of ec e (fun z => nomatch z))]
    exact ec
end

section
variable {X : Cx} {pins : List (Addr × Obj)} {σ : St} {H : Hp} {s : Shared} {a : Addr} {kvs : List (Key × V)} {k : Key} {u : Value} {A : Around} {E : Value → Shared → Prop}
/-- d.pop(k[, x]), there -/
theorem d_pop {v : V} {more : List Value} {Q : Value → Shared → Prop} (I : Inv X pins σ H s) (e : H a = some (.dK kvs)) (ry : RelV (kV k) u) (l : valV kvs k = some v) (hm : more = [] ∨ ∃ x, more = [x])
    (h : ∀ w' s', Inv X pins σ (upd H a (.dK (dropK kvs k))) s' → RelV v w' → Q w' s') : wpAny (model X.prog X.w) A (call (.builtin "dict.pop") (.ref a :: u :: more)) Q E s := by
  obtain ⟨z, hd, vs, rel, dd⟩ := dk_of I.hok e
  obtain ⟨w', hw, rw'⟩ := RelO.some_of (v := v) (o := valueAt vs k) (by rw [← l]; exact rel.val k)
  have hp : (keyPart u).isSome = true := by
    cases k with
    | inl i => obtain ⟨t, q⟩ := (show ∃ t, u = Value.int i t from ry); subst q; rfl
    | inr x => obtain ⟨t, q⟩ := (show ∃ t, u = Value.str x t from ry); subst q; rfl
  have ha : argsOk "dict.pop" ⟨.ref a :: u :: more, []⟩ := by
    rcases hm with q | ⟨x, q⟩
    · subst q; exact PySem.F.args_dict_pop_2 _ _
    · subst q; exact PySem.F.args_dict_pop_3 _ _ _
  refine call_meetsIn PySem.F.slot_dict_pop dd.typeIs PySem.F.entry_dict_pop ha (meets_dict_pop_there (mixKind X.prog X.w) a (kV_is ry) more hm hp)
    ⟨vs, w', dd, by rw [← rel.length]; exact z, hw, fun h' dd' hs => h w' _ ?_ rw'⟩
  have he : ∃ q, h'.get? a = some q := let ⟨q, _, _, hq, _⟩ := dd'; ⟨q, hq⟩
  exact d_write I (by rw [e]; exact True.intro) hs he (dk_new (Nat.le_trans (dropK_le kvs k) z) hd (rel.drop k) dd')
end


/-! ### readings and rules -/
/-- the element of a subscription, not a slice -/
def NoSl (i : Expr) : Prop := ∀ ov iv, subscripted i false ov iv = operate [ov, iv] (getItem ov iv)
theorem subD_of {prog : Program} {w : World} {A : Around} {E : Value → Shared → Prop} {s : Shared} {env : Env} {value slice : Expr} {pos : Pos} {T id : String} {Q : Value → Shared → Prop}
    (hl : typeLookup (.type T) "__getitem__" = pure (some (.builtin id))) (hs : NoSl slice)
    (h : wpAny (model prog w) A (eval value env) (fun o s₁ => wpAny (model prog w) A (eval slice env) (fun i s₂ => s₂.TypeIs o T ∧ wpAny (model prog w) A (getItem o i) Q E s₂) E s₁) E s) :
    wpAny (model prog w) A (eval (.Subscript value slice pos) env) Q E s := by
  refine Subscript_ (wpAny_mono h (fun o s₁ h₁ => wpAny_mono h₁ (fun i s₂ h₂ => ?_) fun _ _ x => x) fun _ _ x => x)
  obtain ⟨hT, h₂⟩ := h₂
  unfold subscriptTail
  refine wpAny_bind ?_
  rw [getitemInPython_of_ne hT.not_modules]
  refine wpAny_bind (wpAny_specialOf hT hl ?_)
  have fin : wpAny (model prog w) A (subscripted slice false o i) (fun r s₃ => wpAny (model prog w) A (letTemporaryGo value o r >>= fun _ => pure r) Q E s₃) E s₂ := by
    rw [hs o i]
    exact wpAny_operating (wpAny_mono h₂ (fun r s₃ h₃ => wpAny_bind (wpAny_letTemporaryGo (wpAny_pure h₃))) fun _ _ x => x)
  first
    | exact wpAny_pure (wpAny_bind fin)
    | exact wpAny_bind (wpAny_pure (wpAny_bind fin))
    | exact wpAny_bind fin

theorem dict_typeIs {X : Cx} {pins : List (Addr × Obj)} {σ : St} {H : Hp} {s : Shared} {a : Addr} {y : V} {o : Option V} (I : Inv X pins σ H s) (g : DGet H a y o) : s.TypeIs (.ref a) "dict" := by
  rcases g with ⟨kvs, k, e, _, _⟩ | ⟨kvs, k, b, e, _, _, _⟩
  · obtain ⟨_, _, vs, _, dd⟩ := dk_rd I.hok e
    exact dd.typeIs
  · obtain ⟨_, _, xs, _, dd⟩ := dt_rd I.hok e
    exact dd.typeIs
/-- d[y] -/
def tDGet (td ty : TE) : TE := fun σ H Q => td σ H fun x H1 => ty σ H1 fun y H2 => ∃ a v, x = .ref a ∧ DGet H2 a y (some v) ∧ Q v H2
/-- d[y] = v -/
def sDPut (td ty tv : TE) : TS := fun D σ H => tv σ H fun v H1 => td σ H1 fun x H2 => ty σ H2 fun y H3 => ∃ a H4, x = .ref a ∧ DPut H3 a y v H4 ∧ D.nx σ H4
section
variable {X : Cx} {o i e value : Expr} {pos pos' tpos : Pos} {td ty tv : TE}
theorem pe_dget (hu : X.A.units + 1 < cLine) (ho : PE X o td) (hi : PE X i ty) (hs : NoSl i) : PE X (.Subscript o i pos) (tDGet td ty) := by
  intro pins s σ H Q I h
  refine subD_of PySem.F.slot_dict_getitem.lookup hs (thn (ho pins s σ H _ I h) fun u s1 ⟨x, H1, I1, rx, q1⟩ => thn (hi pins s1 σ H1 _ I1 q1) fun iv s2 ⟨y, H2, I2, ry, a, v, ex, g, q2⟩ => ?_)
  subst ex
  obtain rfl : u = Value.ref a := rx
  exact ⟨dict_typeIs I2 g, d_getItem hu I2 g ry fun w' s3 I3 rw' => ⟨v, H2, I3, rw', q2⟩⟩
theorem ps_dput (hu : X.A.units + 1 < cLine) (ho : PE X o td) (hi : PE X i ty) (hv : PE X value tv) (hs : swapsWith value (some (.Subscript o i pos')) pos.line X.env = pure false) :
    PS X (.Assign [.Subscript o i pos'] value pos) (sDPut td ty tv) := by
  intro pins s σ H D I h
  refine wpAny_Assign_Subscript (thn (hv pins s σ H _ I h) fun r s1 ⟨v, H1, I1, rv, q1⟩ => thn (ho pins s1 σ H1 _ I1 q1) fun u s2 ⟨x, H2, I2, rx, q2⟩ => thn (hi pins s2 σ H2 _ I2 q2) fun iv s3 ⟨y, H3, I3, ry, a, H4, ex, g, q3⟩ => ?_) hs
  subst ex
  obtain rfl : u = Value.ref a := rx
  exact d_setItem hu I3 g ry rv fun s4 I4 => ⟨σ, H4, I4, q3⟩
end


/-! ### displays -/
theorem dk_empty {P : Program} {w : World} {H : Hp} (h : Heap) (hb : sysModules < h.objs.size) : ObjOk P w H (h.push { cls := .type "dict", data := .dict #[] }) h.objs.size (.dK []) :=
  ⟨Nat.zero_le _, beq_eq_false_iff_ne.mpr (Ne.symm (Nat.ne_of_lt hb)), [], .nil, Heap.DictOf.new h⟩
section
variable {X : Cx} {pos : Pos}
end

/-- the pairs of a display, from the left -/
def tPairs : List (TE × TE) → St → Hp → (List (V × V) → Hp → Prop) → Prop
  | [], _, H, Q => Q [] H
  | (tk, tv) :: r, σ, H, Q => tk σ H fun x H1 => tv σ H1 fun y H2 => tPairs r σ H2 fun ps H3 => Q ((x, y) :: ps) H3
abbrev VV : List (V × V) → List (Value × Value) → Prop := Paired fun p q => RelV p.1 q.1 ∧ RelV p.2 q.2
def PPs (X : Cx) (pos : Pos) (keys : List (Option Expr)) (values : List Expr) (trs : List (TE × TE)) : Prop :=
  ∀ (pins : List (Addr × Obj)) (s : Shared) (σ : St) (H : Hp) (Q : List (V × V) → Hp → Prop), Inv X pins σ H s → tPairs trs σ H Q →
    wpAny (model X.prog X.w) X.A (evalPairs (pairTrees keys values X.env pos)) (fun vs s' => ∃ ps H', Inv X pins σ H' s' ∧ VV ps vs ∧ Q ps H') X.xe s
theorem pps_nil {X : Cx} {pos : Pos} : PPs X pos [] [] [] := fun pins s σ H Q I h => pairTrees_nil_walk ⟨[], H, I, .nil, h⟩
theorem pps_cons {X : Cx} {pos : Pos} {k v : Expr} {ks : List (Option Expr)} {vs : List Expr} {tk tv : TE} {trs : List (TE × TE)} (hk : PE X k tk) (hv : PE X v tv) (hr : PPs X pos ks vs trs) :
    PPs X pos (some k :: ks) (v :: vs) ((tk, tv) :: trs) := fun pins s σ H Q I h =>
  pairTrees_cons_walk (thn (hk pins s σ H _ I h) fun u s1 ⟨x, H1, I1, rx, q1⟩ => thn (hv pins s1 σ H1 _ I1 q1) fun w2 s2 ⟨y, H2, I2, ry, q2⟩ =>
    thn (hr pins s2 σ H2 _ I2 q2) fun ws s3 ⟨ps, H3, I3, rel, q3⟩ => ⟨(x, y) :: ps, H3, I3, .cons ⟨rx, ry⟩ rel, q3⟩)

def mergeK (kvs more : List (Key × V)) : List (Key × V) := more.foldl (fun acc kv => putK acc kv.1 kv.2) kvs
theorem KV.merge : ∀ {more : List (Key × V)} {rs : List (Key × Value)} {kvs : List (Key × V)} {vs : List (Key × Value)}, KV more rs → KV kvs vs → KV (mergeK kvs more) (merged vs rs) := by
  intro more rs kvs vs r
  unfold KV at r
  induction r generalizing kvs vs with
  | nil => intro q; exact q
  | @cons p q ps qs h t ih =>
    intro r0
    have e : KV (putK kvs p.1 p.2) (stored vs q.1 q.2) := by
      have := r0.put p.1 h.2
      rw [← h.1]; exact this
    exact ih e
theorem length_mergeK : ∀ (more kvs : List (Key × V)), (mergeK kvs more).length ≤ kvs.length + more.length
  | [], kvs => by show kvs.length ≤ kvs.length + 0; omega
  | p :: r, kvs => by
    have h1 := length_mergeK r (putK kvs p.1 p.2)
    have h2 := length_putK kvs p.1 p.2
    show (mergeK (putK kvs p.1 p.2) r).length ≤ _
    rw [List.length_cons]; omega
theorem carries_of {P : Program} {w : World} : ∀ {kvs : List (Key × V)} {ws : List (Value × Value)}, VV (kvs.map fun kv => (kV kv.1, kv.2)) ws → ∃ rs, Carries (mixKind P w) ws rs ∧ KV kvs rs
  | [], _, r => by rw [List.map_nil] at r; cases r; exact ⟨[], True.intro, .nil⟩
  | p :: kvs, _, r => by
    rw [List.map_cons] at r
    cases r with
    | @cons a b as bs h t =>
      obtain ⟨rs, c, q⟩ := carries_of (P := P) (w := w) t
      obtain ⟨b1, b2⟩ := b
      exact ⟨(p.1, b2) :: rs, ⟨kV_is h.1, rfl, c⟩, .cons ⟨rfl, h.2⟩ q⟩
/-- {k: v, ..} with keys ints and texts; the new dict stands empty while the pairs are made -/
def tDisp (trs : List (TE × TE)) : TE := fun σ H Q => ∀ p, H p = none → tPairs trs σ (upd H p (.dK [])) fun ps H2 => H2 p = some (.dK []) ∧ ∃ kvs : List (Key × V), ps = kvs.map (fun kv => (kV kv.1, kv.2)) ∧ kvs.length ≤ 15 ∧ Q (.ref p) (upd H2 p (.dK (mergeK [] kvs)))
theorem pe_disp {X : Cx} {pos : Pos} {keys : List (Option Expr)} {values : List Expr} {trs : List (TE × TE)} (h : PPs X pos keys values trs) (hall : keys.all (·.isSome) = true) (hl : keys.length = values.length) (h0 : keys ≠ [])
    (h15 : keys.length ≤ 15) : PE X (.Dict keys values pos) (tDisp trs) := by
  intro pins s σ H Q I q
  have hn := I.hok.fresh (Nat.le_refl s.heap.objs.size)
  have I1 := I.laid (a := s.heap.objs.size) (o := .dK []) (h' := s.heap.push { cls := .type "dict", data := .dict #[] }) (t' := s.toks) (fun _ _ q => Heap.get?_push_of_some _ q) (Nat.le_refl _) (dk_empty s.heap I.big)
  refine wpAny_Dict_walk (knd := mixKind X.prog X.w) hall hl h0 h15 (thn (h pins _ σ _ _ I1 (q _ hn)) fun ws s2 ⟨ps, H2, I2, rel, e, kvs, ep, lk, q2⟩ => ?_)
  subst ep
  obtain ⟨rs, c, rk⟩ := carries_of (P := X.prog) (w := X.w) rel
  obtain ⟨z, hd, vs0, r0, dd⟩ := dk_of I2.hok e
  cases r0
  refine ⟨rs, c, dd, fun h' dd' hs => ⟨.ref s.heap.objs.size, _, ?_, rfl, q2⟩⟩
  have hz : (mergeK [] kvs).length ≤ sizeLine := by
    have h1 := length_mergeK kvs []
    rw [List.length_nil] at h1
    rw [sizeLine_eq]; omega
  have he : ∃ q, h'.get? s.heap.objs.size = some q := let ⟨q, _, _, hq, _⟩ := dd'; ⟨q, hq⟩
  exact d_write I2 (by rw [e]; exact True.intro) hs he (dk_new hz hd (rk.merge .nil) dd')


/-! ### methods -/
/-- a method call o.m(e) of a built-in, with one argument: what must be seen of the text -/
structure M1 (X : Cx) (o : Expr) (m : Str) (apos : Pos) (e : Expr) (cpos : Pos) : Prop where
  base : attributeBase o m X.env (eval o X.env) = eval o X.env
  few : ((backTo cpos (starEach [e] X.env)).all (fun x => !x.1) && (backToKw cpos (keywordEach [] X.env)).all (fun x => x.1.isSome)
    && decide (([e] : List Expr).length + ([] : List Keyword).length + (if ([] : List Keyword).isEmpty then 0 else 1) < 30)) = true
  line : (apos.endLine == cpos.line) = true
  trees : backTo cpos (starEach [e] X.env) = [(false, eval e X.env)]
structure M2 (X : Cx) (o : Expr) (m : Str) (apos : Pos) (e f : Expr) (cpos : Pos) : Prop where
  base : attributeBase o m X.env (eval o X.env) = eval o X.env
  few : ((backTo cpos (starEach [e, f] X.env)).all (fun x => !x.1) && (backToKw cpos (keywordEach [] X.env)).all (fun x => x.1.isSome)
    && decide (([e, f] : List Expr).length + ([] : List Keyword).length + (if ([] : List Keyword).isEmpty then 0 else 1) < 30)) = true
  line : (apos.endLine == cpos.line) = true
  trees : backTo cpos (starEach [e, f] X.env) = [(false, eval e X.env), (false, eval f X.env)]

/-- a is a dict, whatever its keys -/
def IsD (H : Hp) (a : Addr) : Prop := (∃ kvs, Rd H a (.dK kvs)) ∨ ∃ kvs, Rd H a (.dT kvs)
theorem isD_at {X : Cx} {pins : List (Addr × Obj)} {σ : St} {H : Hp} {s : Shared} {a : Addr} (I : Inv X pins σ H s) (d : IsD H a) :
    s.TypeIs (.ref a) "dict" ∧ (∀ b, Value.ref a = .ref b → ∃ ob, s.heap.get? b = some ob ∧ ob.dict = none) ∧ (a == sysModules) = false := by
  rcases d with ⟨kvs, e⟩ | ⟨kvs, e⟩
  · obtain ⟨_, hd, vs, _, dd⟩ := dk_rd I.hok e
    refine ⟨dd.typeIs, fun b q => ?_, hd⟩
    cases q
    obtain ⟨ob, _, _, h1, h2, _⟩ := dd
    exact ⟨ob, h1, h2.2.1⟩
  · obtain ⟨_, hd, xs, _, dd⟩ := dt_rd I.hok e
    refine ⟨dd.typeIs, fun b q => ?_, hd⟩
    cases q
    obtain ⟨ob, _, _, h1, h2, _⟩ := dd
    exact ⟨ob, h1, h2.2.1⟩

section
variable {X : Cx} {pins : List (Addr × Obj)} {σ : St} {H : Hp} {s : Shared} {a : Addr} {y d : V} {u r : Value} {o : Option V} {A : Around} {E : Value → Shared → Prop}
/-- d.get(y, x) -/
theorem d_get2 {Q : Value → Shared → Prop} (hu : A.units + 1 < cLine) (I : Inv X pins σ H s) (g : DGet H a y o) (ry : RelV y u) (rd : RelV d r) (h : ∀ w' s', Inv X pins σ H s' → RelV (o.getD d) w' → Q w' s') :
    wpAny (model X.prog X.w) A (call (.builtin "dict.get") [.ref a, u, r]) Q E s := by
  rcases g with ⟨kvs, k, e, ey, l⟩ | ⟨kvs, k, b, e, ey, eb, l⟩
  · subst ey
    obtain ⟨z, hd, vs, rel, dd⟩ := dk_rd I.hok e
    refine call_meetsIn PySem.F.slot_dict_get dd.typeIs PySem.F.entry_dict_get (PySem.F.args_dict_get_3 _ _ _) (meets_dict_get_default (mixKind X.prog X.w) a (kV_is ry) hd r) ⟨_, dd.mapOf, h _ _ (I.tok _) ?_⟩
    rw [l]
    exact (rel.val k).getD rd
  · subst ey
    cases (show u = Value.ref b from ry)
    obtain ⟨z, hd, xs, rel, dd⟩ := dt_rd I.hok e
    refine call_meetsIn PySem.F.slot_dict_get dd.typeIs PySem.F.entry_dict_get (PySem.F.args_dict_get_3 _ _ _) (meetsH_dict_get_default (tupleKind (mixKind X.prog X.w)) a b hd r) ⟨tupleKind_room_in1 hu, k, xs, key_of I.hok eb, dd, h _ _ (I.tok _) ?_⟩
    rw [l]
    exact (rel.val k).getD rd
end

def tDGet2 (td ty tx : TE) : TE := fun σ H Q => td σ H fun x H1 => ∃ a, x = .ref a ∧ IsD H1 a ∧ ty σ H1 fun y H2 => tx σ H2 fun z H3 => ∃ o, DGet H3 a y o ∧ Q (o.getD z) H3
/-- d.pop(k): there; d.pop(k, x): there or not -/
def tDPop1 (td ty : TE) : TE := fun σ H Q => td σ H fun x H1 => ∃ a, x = .ref a ∧ IsD H1 a ∧ ty σ H1 fun y H2 => ∃ kvs k v, H2 a = some (.dK kvs) ∧ y = kV k ∧ valV kvs k = some v ∧ Q v (upd H2 a (.dK (dropK kvs k)))
section
variable {X : Cx} {o e f : Expr} {apos cpos : Pos} {td ty tx : TE}
theorem pe_dget2 (hu : X.A.units + 1 < cLine) (ho : PE X o td) (he : PE X e ty) (hf : PE X f tx) (m : M2 X o "get" apos e f cpos) : PE X (.Call (.Attribute o "get" apos) [e, f] [] cpos) (tDGet2 td ty tx) := by
  intro pins s σ H Q I h
  refine wpAny_Call_method m.base m.few m.line PySem.F.plainAttrs_dict PySem.F.slot_dict_get PySem.F.type_dict_get (thn (ho pins s σ H _ I h) fun u s1 ⟨x, H1, I1, rx, a, ex, d, q1⟩ => ?_)
  subst ex
  obtain rfl : u = Value.ref a := rx
  obtain ⟨t1, t2, _⟩ := isD_at I1 d
  refine ⟨t1, t2, ?_⟩
  rw [m.trees]
  refine Calls.callWith_builtin rfl (Calls.evalArgs_plain (Calls.spliced_cons (thn (he pins s1 σ H1 _ I1 q1) fun iv s2 ⟨y, H2, I2, ry, q2⟩ =>
    Calls.spliced_cons (thn (hf pins s2 σ H2 _ I2 q2) fun fv s3 ⟨z, H3, I3, rz, ov, g, q3⟩ => Calls.spliced_nil ?_))))
  exact d_get2 hu I3 g ry rz fun w' s4 I4 rw' => ⟨_, H3, I4, rw', q3⟩
theorem pe_dpop1 (ho : PE X o td) (he : PE X e ty) (m : M1 X o "pop" apos e cpos) : PE X (.Call (.Attribute o "pop" apos) [e] [] cpos) (tDPop1 td ty) := by
  intro pins s σ H Q I h
  refine wpAny_Call_method m.base m.few m.line PySem.F.plainAttrs_dict PySem.F.slot_dict_pop PySem.F.type_dict_pop (thn (ho pins s σ H _ I h) fun u s1 ⟨x, H1, I1, rx, a, ex, d, q1⟩ => ?_)
  subst ex
  obtain rfl : u = Value.ref a := rx
  obtain ⟨t1, t2, _⟩ := isD_at I1 d
  refine ⟨t1, t2, ?_⟩
  rw [m.trees]
  refine Calls.callWith_builtin rfl (Calls.evalArgs_plain (Calls.spliced_cons (thn (he pins s1 σ H1 _ I1 q1) fun iv s2 ⟨y, H2, I2, ry, kvs, k, v, ea, ey, l, q2⟩ => Calls.spliced_nil ?_)))
  subst ey
  exact d_pop I2 ea ry l (.inl rfl) fun w' s3 I3 rw' => ⟨v, _, I3, rw', q2⟩
end

/-! ### dict(d): a copy -/
section
variable {X : Cx} {pins : List (Addr × Obj)} {σ : St} {H : Hp} {s : Shared} {a : Addr} {kvs : List (Key × V)} {A : Around} {E : Value → Shared → Prop}
end


section
variable {X : Cx} {pins : List (Addr × Obj)} {σ : St} {H : Hp} {s : Shared} {a : Addr} {y : V} {u : Value} {A : Around} {E : Value → Shared → Prop}
end
end L2

namespace L2
open PySem PySem.Spec PyProof.Rows

theorem list_keys_none : typeLookup (.type "list") "keys" = pure none := am_miss_of_fast (by first | decide +kernel | rfl)
theorem ud_entry : entryFor table "dict.update.loop" = some Builtin.«dict.update.loop» := entryFor_of_tree (by kernel_rfl)
theorem ud_plain : plainId "dict.update.loop" = true := by decide +kernel

section
variable {prog : Program} {w : World} {A : Around} {E : Value → Shared → Prop}
/-- a list has no attribute 'keys': an AttributeError is made, and forgotten -/
theorem miss_list {s : Shared} {a : Addr} {o : Obj} {xs : Array Value} {k : Nat} {Q : Option Value → Shared → Prop} (hx : s.heap.get? a = some o) (hc : o.cls = .type "list") (hdat : o.data = .seq xs k) (hd : o.dict = none) (hA : A.handled = none)
    (h : ∀ h' tk, (∀ b ob, s.heap.get? b = some ob → h'.get? b = some ob) → Q none { s with heap := h', toks := tk }) : wpAny (model prog w) A (getAttr? (.ref a) "keys") Q E s := by
  obtain ⟨c, dct, dat, sl⟩ := o
  simp only at hc hdat hd
  subst hc hdat hd
  obtain ⟨hp, g, d, tk, os⟩ := s
  have hT : ∀ tk', (⟨hp, g, d, tk', os⟩ : Shared).TypeIs (.ref a) "list" := fun _ => ⟨_, hx, rfl⟩
  have hmiss := list_keys_none
  have hname : (["__module__", "__name__", "__qualname__", "__doc__", "__annotations__"] : List Str).contains "keys" = false := by decide +kernel
  have hsz : ("keys" : Str).length + 100 ≤ sizeLine := by first | size_fits | decide +kernel
  have f1 := sub_AttributeError
  have f3 := PySem.F.slot_list_getattribute.lookup
  have f4 := PySem.F.slot_list_getattribute.bind (.ref a)
  have f5 := am_list_getattr_none
  unfold getAttr? getAttrBy? getAttrBy
  repeat (any_goals (first | assumption | exact hT _ | ((with_reducible show wpAny _ _ (call (Value.builtin "list.__getattribute__") _ _) _ _ _); refine call_meets PySem.F.slot_list_getattribute (hT _) am_entry_list_getattribute (PySem.F.args_list_getattribute_2 _ _) (meets_getattribute_miss_list a xs k sl "keys" _ hmiss hname hsz) ⟨hx, hA, fun h' tk' e hx' => ?_⟩) | wp_step))
  obtain ⟨t', u', he⟩ := hx'.there
  show wpAny _ _ (getattributeRaised _ _ _ _ _ _ _) _ _ _
  unfold getattributeRaised
  repeat (any_goals (first | assumption | wp_step))
  all_goals first | exact h _ _ hx'.keeps | (dsimp only; repeat (any_goals (first | assumption | exact h _ _ hx'.keeps | wp_step)))

/-- the walk over the pairs -/
theorem upd_loop {R : Result → Shared → Prop} {S I l : Addr} {items : Array Value} {res : Value} (hh : A.handled = none) (hlI : l ≠ I) (hSI : S ≠ I) (hSl : S ≠ l) :
    ∀ (rest : List (Key × Value)) (i : Nat) (acc : List (Key × Value)) (ix : Int) (t : Tok) (s : Shared), items.size = i + rest.length → acc.length + rest.length ≤ sizeLine →
      (∀ (j : Nat) (q : Key × Value), rest[j]? = some q → ∃ (b : Addr) (u : Value), items[i + j]? = some (.ref b) ∧ b ≠ S ∧ b ≠ I ∧ IsTup s.heap b #[u, q.2] ∧ keyIs q.1 u = true) →
      s.heap.IsListIter I l i → s.heap.IsList l items → s.heap.DictOf (mixKind prog w) S acc →
      (∀ h' tk, h'.DictOf (mixKind prog w) S (merged acc rest) → (∀ b o, b ≠ S → b ≠ I → s.heap.get? b = some o → h'.get? b = some o) → R (.ok (.ret res)) { s with heap := h', toks := tk }) →
      codeAny (model prog w) A (.builtin "dict.update.loop" ⟨[.ref S, .ref I, .int ix t, res], []⟩) R s
  | [], i, acc, ix, t, s, hsz, hln, ht, hit, hl, hm, hR => by
    refine codeAny_builtin ud_entry ?_
    rw [Around.under_plainId ud_plain _]
    show wpAny _ A.in1 (pyNext (.ref I) >>= _) _ _ s
    refine wpAny_bind (wpAny_pyNext_list_end (A := A.in1) hh hit hl (by first | exact Array.getElem?_eq_none (Nat.le_of_eq hsz) | (simp at hsz; simp; omega)) fun h' he => ?_)
    show wpAny _ A.in1 (Builtin.Dict.addKeywords S [] >>= _) _ _ _
    refine wpAny_bind (wpAny_pure (wpAny_pure ?_))
    exact hR h' s.toks (hm.extBut he hSI) fun b o _ hb e => he b o hb e
  | q :: rest, i, acc, ix, t, s, hsz, hln, ht, hit, hl, hm, hR => by
    obtain ⟨b, u, hb, hbS, hbI, htup, hk⟩ := ht 0 q rfl
    rw [List.length_cons] at hsz hln
    refine codeAny_builtin ud_entry ?_
    rw [Around.under_plainId ud_plain _]
    show wpAny _ A.in1 (pyNext (.ref I) >>= _) _ _ s
    refine wpAny_bind (wpAny_pyNext_list_item (x := .ref b) hit hl (by simpa using hb) fun h1 hit1 hs1 => ?_)
    have ht1 : IsTup h1 b #[u, q.2] := htup.extBut hs1.extBut hbI
    have hl1 : h1.IsList l items := hl.extBut hs1.extBut hlI
    have hm1 : h1.DictOf (mixKind prog w) S acc := hm.extBut hs1.extBut hSI
    obtain ⟨o, ho, hc, n, hd⟩ := id ht1
    show wpAny _ A.in1 (holding [Value.ref b] _ >>= _) _ _ _
    refine wpAny_bind (wpAny_holding ?_)
    refine wpAny_bind (wpAny_tryCatch ?_)
    unfold Builtin.Dict.pairItems
    refine wpAny_bind (wpAny_typeOf (T := "tuple") ⟨o, ho, hc⟩ ?_)
    rw [if_pos (by first | decide | rfl | simp)]
    refine wpAny_bind (wpAny_seqItems ho hd (wpAny_pure ?_))
    show wpAny _ A.in1 (holding [u, q.2] (dictSet S u q.2)) _ _ _
    refine wpAny_holding (wpAny_dictSet_pairs (knd := mixKind prog w) (k := q.1) hk hm1 (fun h2 hm2 hs2 => ?_) (by omega))
    refine wpAny_pure ⟨plainId_quiet ud_plain _, upd_loop (items := items) hh hlI hSI hSl rest (i + 1) (stored acc q.1 q.2) (ix + 1) 0 _ (show items.size = i + 1 + rest.length by omega) ?_ (fun j q' e => ?_) ?_ ?_ hm2 fun h' tk hd' k => ?_⟩
    · have z := stored_length_le acc q.1 q.2
      omega
    · obtain ⟨b', u', hb', hbS', hbI', htup', hk'⟩ := ht (j + 1) q' (by simpa using e)
      refine ⟨b', u', ?_, hbS', hbI', (htup'.extBut hs1.extBut hbI').extBut hs2.extBut hbS', hk'⟩
      rw [show i + 1 + j = i + (j + 1) by omega]
      exact hb'
    · exact hit1.at fun o' e => hs2.extBut I o' (Ne.symm hSI) e
    · exact hl1.extBut hs2.extBut (Ne.symm hSl)
    · exact hR h' tk hd' fun c oc h3 h4 e => k c oc h3 h4 (hs2.extBut c oc h3 (hs1.extBut c oc h4 e))

/-- dict(l) of a list of pairs -/
theorem call_dict_pairs {s : Shared} {l : Addr} {ol : Obj} {items : Array Value} {n : Nat} {prs : List (Key × Value)} {Q : Value → Shared → Prop} (hh : A.handled = none) (hl : s.heap.get? l = some ol) (hc : ol.cls = .type "list") (hd : ol.dict = none)
    (hdat : ol.data = .seq items n) (hsz : items.size = prs.length) (hln : prs.length ≤ sizeLine)
    (ht : ∀ (j : Nat) (q : Key × Value), prs[j]? = some q → ∃ (b : Addr) (u : Value), items[j]? = some (.ref b) ∧ IsTup s.heap b #[u, q.2] ∧ keyIs q.1 u = true)
    (h : ∀ h' tk, h'.DictOf (mixKind prog w) s.heap.objs.size (merged [] prs) → (∀ b o, s.heap.get? b = some o → h'.get? b = some o) → Q (.ref s.heap.objs.size) { s with heap := h', toks := tk }) :
    wpAny (model prog w) A (call (.type "dict") [.ref l]) Q E s := by
  refine callType_codes (Q₁ := fun obj s₁ => obj = .ref s.heap.objs.size ∧ s₁ = { s with heap := s.heap.push { cls := .type "dict", data := .dict #[] } }) PySem.F.kt_called_dict (PySem.F.kt_typeCall_dict_1 _) PySem.F.entry_dict_init (kt_code_dict_new _ ⟨rfl, rfl⟩) ?_
  rintro obj s₁ ⟨rfl, rfl⟩
  have hnew : (s.heap.push { cls := .type "dict", data := .dict #[] }).DictOf (mixKind prog w) s.heap.objs.size [] := Heap.DictOf.new s.heap
  have k0 : ∀ b o, s.heap.get? b = some o → (s.heap.push { cls := .type "dict", data := .dict #[] }).get? b = some o := fun b o e => Heap.get?_push_of_some _ e
  refine ⟨hnew.typeIs, PySem.F.args_dict_init_2 _ _, ?_⟩
  unfold Builtin.«dict.__init__»
  refine wpAny_bind ?_
  unfold Builtin.Dict.selfAndRest
  refine wpAny_bind (wpAny_notOrdered_dict hnew.typeIs ?_)
  show wpAny _ _ (pure (s.heap.objs.size, [Value.ref l])) _ _ _
  refine wpAny_pure ?_
  show wpAny _ _ (Builtin.Dict.updateFrom "dict.__init__" s.heap.objs.size (.ref l) [] .none) _ _ _
  unfold Builtin.Dict.updateFrom
  refine wpAny_bind (wpAny_typeOf (T := "list") ⟨ol, k0 _ _ hl, hc⟩ ?_)
  rw [if_pos (by first | decide | rfl | simp)]
  refine wpAny_bind (miss_list (k0 _ _ hl) hc hdat hd hh fun h1 tk1 hk1 => ?_)
  rw [if_pos (show (none : Option Value).isNone = true from rfl)]
  refine wpAny_bind (wpAny_rule ?_)
  have hl1 : h1.IsList l items := ⟨ol, hk1 _ _ (k0 _ _ hl), hc, n, hdat⟩
  have hS1 : s.heap.objs.size < h1.objs.size := by
    have e : (s.heap.push { cls := .type "dict", data := .dict #[] }).get? s.heap.objs.size = some { cls := .type "dict", data := .dict #[] } := Heap.get?_push_size _ rfl
    exact Heap.lt_size (hk1 _ _ e)
  refine wpAny_bind (wpAny_pyIter_list hl1 ?_)
  have k2 : ∀ b o, h1.get? b = some o → (h1.push { cls := .type "list_iterator", data := .fields #[.ref l, .int 0 0] }).get? b = some o := fun b o e => Heap.get?_push_of_some _ e
  have hlt : l < s.heap.objs.size := Heap.lt_size hl
  have key := upd_loop (prog := prog) (w := w) (A := A.in1) (R := wants (fun r s₂ => r = .none ∧ Q (.ref s.heap.objs.size) s₂) E) (S := s.heap.objs.size) (I := h1.objs.size) (l := l) (items := items) (res := Value.none) hh
    (Nat.ne_of_lt (Nat.lt_trans hlt hS1)) (Nat.ne_of_lt hS1) (Nat.ne_of_gt hlt) prs 0 [] 0 0
    { s with heap := h1.push { cls := .type "list_iterator", data := .fields #[.ref l, .int 0 0] }, toks := tk1 } (by rw [hsz, Nat.zero_add]) (by rw [List.length_nil, Nat.zero_add]; exact hln)
    (fun j q e => by
      obtain ⟨b, u, e1, e2, e3⟩ := ht j q e
      have hb : b < s.heap.objs.size := e2.lt
      exact ⟨b, u, by rw [Nat.zero_add]; exact e1, Nat.ne_of_lt hb, Nat.ne_of_lt (Nat.lt_trans hb hS1), e2.keeps fun c o z => k2 _ _ (hk1 _ _ (k0 _ _ z)), e3⟩)
    ⟨_, Heap.get?_push_size _ rfl, rfl, rfl⟩ (hl1.at fun o e => k2 _ _ e) ((hnew.at fun o e => hk1 _ _ e).at fun o e => k2 _ _ e)
    (fun h' tk hd' k => ⟨rfl, h h' tk hd' fun b o e => k b o (Nat.ne_of_lt (Heap.lt_size e)) (Nat.ne_of_lt (Nat.lt_trans (Heap.lt_size e) hS1)) (k2 _ _ (hk1 _ _ (k0 _ _ e)))⟩)
  first
    | exact wpAny_pure ⟨plainId_quiet ud_plain _, key⟩
    | exact wpAny_bind (wpAny_pure (wpAny_pure ⟨plainId_quiet ud_plain _, key⟩))
end

section
variable {X : Cx}
theorem pairs_of {pins : List (Addr × Obj)} {σ : St} {H : Hp} {s : Shared} (I : Inv X pins σ H s) : ∀ {ps : List Addr} {kvs : List (Key × V)}, Paired (fun p kv => SqT X.K H p [kV kv.1, kv.2]) ps kvs →
    ∃ prs : List (Key × Value), KV kvs prs ∧ prs.length = ps.length ∧ ∀ (j : Nat) (q : Key × Value), prs[j]? = some q → ∃ (b : Addr) (u : Value), ps[j]? = some b ∧ IsTup s.heap b #[u, q.2] ∧ keyIs q.1 u = true
  | _, _, .nil => ⟨[], .nil, rfl, fun j q e => by simp at e⟩
  | _, _, .cons (a := p) (b := kv) h t => by
    obtain ⟨prs, r, hl, hp⟩ := pairs_of I t
    obtain ⟨its, rv, ht, _⟩ := I.tuple h
    obtain ⟨u, y, ei, ru, ry⟩ := vals2 rv
    subst ei
    refine ⟨(kv.1, y) :: prs, .cons ⟨rfl, ry⟩ r, by rw [List.length_cons, List.length_cons, hl], fun j q e => ?_⟩
    cases j with
    | zero =>
      have e' : (kv.1, y) = q := Option.some.inj e
      subst e'
      exact ⟨p, u, rfl, ht, kV_is (P := X.prog) (w := X.w) ru⟩
    | succ j =>
      obtain ⟨b, u', e1, e2, e3⟩ := hp j q (by simpa using e)
      exact ⟨b, u', by simpa using e1, e2, e3⟩
theorem refs_at : ∀ {ps : List Addr} {us : List Value}, Vals (ps.map V.ref) us → us = ps.map Value.ref
  | [], us, r => by
    rw [List.map_nil] at r
    cases r
    rfl
  | p :: ps, us, r => by
    rw [List.map_cons] at r
    cases r with
    | cons h t =>
      cases h
      rw [List.map_cons, ← refs_at t]
/-- dict(xs) of a list of pairs (key, value): later pairs win, the place is the first one's -/
theorem call_dictP (hcalm : X.calm = true) : CallR X (.type "dict") (fun xs H Q => ∃ (a : Addr) (ps : List Addr) (kvs : List (Key × V)), xs = [.ref a] ∧ SqL X.K H a (ps.map V.ref) ∧ Paired (fun p kv => SqT X.K H p [kV kv.1, kv.2]) ps kvs ∧
    ∀ p, H p = none → Q (.ref p) (upd H p (.dK (mergeK [] kvs)))) := by
  intro pins s σ H xs us Q I r q
  obtain ⟨a, ps, kvs, ex, hq, hp, q⟩ := q
  subst ex
  obtain ⟨u, eu, rx⟩ := vals1 r
  subst eu
  cases rx
  obtain ⟨its, rv, pl, hz⟩ := I.list hq
  have ei := refs_at rv
  subst ei
  rw [List.length_map] at hz
  obtain ⟨prs, rel, hl, hpr⟩ := pairs_of I hp
  obtain ⟨o, n, ho, hc, hd, hdat⟩ := pl
  refine call_dict_pairs (prs := prs) (I.ok.hd hcalm) ho hc hd hdat (by simp [hl]) (by rw [hl]; exact hz) (fun j q' e => ?_) fun h' tk hd' k => ?_
  · obtain ⟨b, u, e1, e2, e3⟩ := hpr j q' e
    exact ⟨b, u, by simp [e1], e2, e3⟩
  · have hm : (s.heap.objs.size == sysModules) = false := beq_eq_false_iff_ne.mpr (Nat.ne_of_gt I.big)
    have hlen : (mergeK [] kvs).length ≤ sizeLine := by
      refine Nat.le_trans (length_mergeK kvs []) ?_
      rw [List.length_nil, Nat.zero_add, rel.length, hl]
      exact hz
    exact ⟨.ref s.heap.objs.size, upd H s.heap.objs.size (.dK (mergeK [] kvs)), I.laid (t' := tk) k (Nat.le_refl _) (show ObjOk X.prog X.w _ _ _ (.dK (mergeK [] kvs)) from ⟨hlen, hm, merged [] prs, KV.merge rel .nil, hd'⟩), rfl, q _ (I.hok.fresh (Nat.le_refl _))⟩
end
end L2

namespace L2
open PySem PySem.Spec PyProof.Rows

section
variable {X : Cx} {pins : List (Addr × Obj)} {σ : St} {H : Hp} {s : Shared} {h' : Heap}
/-- several records of ours have turned -/
theorem Inv.turnedL {t' : Nat} {ch : List Addr} (I : Inv X pins σ H s) (k : ∀ b o, b ∉ ch → s.heap.get? b = some o → h'.get? b = some o) (hf : ∀ b ∈ ch, FpOk X pins H b) : Inv X pins σ H { s with heap := h', toks := t' } := by
  have nit : ∀ b u, H b = some u → b ∉ ch := fun b u e z => by
    have q := (hf b z).1
    rw [q] at e; cases e
  refine I.step (g' := s.gens) (d' := s.drawn) (ch := ch) (fun b hb => ⟨(hf b hb).2.2.2.1, (hf b hb).2.1, (hf b hb).2.2.2.2.1, (hf b hb).2.2.2.2.2⟩) (fun b o _ _ hc e _ => k b o hc e) (fun b o _ _ hc e _ => ⟨o.slots, k b o hc e⟩)
    (fun _ _ _ _ n => n) (fun b o hc e => ⟨o, k b o hc e⟩) (fun _ _ e => e) (fun _ _ _ e => e) (fun b ps e => ⟨#[], by rw [e]; simp⟩) (fun m hm => ?_) (fun b u e => ?_) I.bare
  · obtain ⟨o, es, ep, ho, r⟩ := hm
    exact ⟨o, es, ep, k _ o (fun z => (hf _ z).2.1 rfl) ho, r⟩
  · refine (I.hok b u e).stay (fun c v hc q => k c v ?_ q) (fun _ q => q) fun _ _ q => q
    rcases hc with z | z
    · rw [z]; exact nit b u e
    · exact nit c _ z
/-- .. and one new object is laid -/
theorem Inv.turnedNew {t' : Nat} {ch : List Addr} {T : Addr} {ob : HO} (I : Inv X pins σ H s) (k : ∀ b o, b ∉ ch → s.heap.get? b = some o → h'.get? b = some o) (hf : ∀ b ∈ ch, FpOk X pins H b) (hT : s.heap.objs.size ≤ T)
    (new : ObjOk X.prog X.w (upd H T ob) h' T ob) : Inv X pins σ (upd H T ob) { s with heap := h', toks := t' } := by
  have hn : H T = none := I.hok.fresh hT
  have nit : ∀ b u, H b = some u → b ∉ ch := fun b u e z => by
    have q := (hf b z).1
    rw [q] at e; cases e
  refine I.step (g' := s.gens) (d' := s.drawn) (ch := ch) (fun b hb => ⟨(hf b hb).2.2.2.1, (hf b hb).2.1, (hf b hb).2.2.2.2.1, (hf b hb).2.2.2.2.2⟩) (fun b o _ _ hc e _ => k b o hc e) (fun b o _ _ hc e _ => ⟨o.slots, k b o hc e⟩)
    (fun b o _ e n => ?_) (fun b o hc e => ⟨o, k b o hc e⟩) (fun b xs e => ?_) (fun b o u e => ?_) (fun b ps e => ⟨#[], ?_⟩) (fun m hm => ?_) (fun b u e => ?_) I.bare
  · rw [upd_ne (Nat.ne_of_lt (Nat.lt_of_lt_of_le (Heap.lt_size e) hT))]; exact n
  · rw [upd_ne (ne_of_none e hn)]; exact e
  · rw [upd_ne (ne_of_none e hn)]; exact e
  · rw [upd_ne (ne_of_none e hn), e]; simp
  · obtain ⟨o, es, ep, ho, r⟩ := hm
    exact ⟨o, es, ep, k _ o (fun z => (hf _ z).2.1 rfl) ho, r⟩
  · by_cases hb : b = T
    · subst hb
      rw [upd_same] at e
      cases e
      exact new
    · rw [upd_ne hb] at e
      refine (I.hok b u e).stay (fun c v hc q => k c v ?_ q) (fun c q => by rw [upd_ne (ne_of_none q hn)]; exact q) fun c xs q => by rw [upd_ne (ne_of_none q hn)]; exact q
      rcases hc with z | z
      · rw [z]; exact nit b u e
      · exact nit c _ z

/-! ### locking a thing while a statement runs -/
end
section
variable {X : Cx}
/-! ### one iterator just laid -/
end

/-! ### range with a step -/
section
variable {X : Cx} {tg : Expr}
end
/-! ### reversed(list) -/
section
variable {X : Cx} {tg : Expr}
end

/-! ### a str -/
/-! ### a dict's keys: any dict's entries -/
section
variable {prog : Program} {w : World} {A : Around} {E : Value → Shared → Prop} {s : Shared}
end

/-! ### a locked dict -/
section
variable {X : Cx} {pins : List (Addr × Obj)} {σ : St} {H : Hp} {s : Shared} {d : Addr} {o : Obj}
end

section
variable {P : Program} {w : World} {K : PySem.W.Frag} {tg : Expr} {d : Addr} {o : Obj} {es : Array DictEntry} {ep : Nat}
end

/-! ### for k in d, d.keys(), d.values(), d.items() -/
section
variable {X : Cx} {tg e : Expr} {td : TE} {apos cpos : Pos}
end

/-! ### enumerate(list) -/
/-- the list at a as it stands at each turn, each item in a new pair -/
def Ite (K : PySem.W.Frag) (a : Addr) : It :=
  ⟨fun i H => ∃ (xs : List V) (x : V), SqL K H a xs ∧ xs[i]? = some x, fun i H v H' => ∃ T x, v = .ref T ∧ H T = none ∧ H' = upd H T (.tup [.int (i : Nat), x]) ∧ ∀ xs, SqL K H a xs → xs[i]? = some x, fun i H => ∃ xs : List V, SqL K H a xs ∧ xs.length ≤ i⟩
theorem turn_enum {P : Program} {w : World} {K : PySem.W.Frag} {elts : List Expr} {kk : Nat} {tpos : Pos} (a e it : Addr) :
    Turn P w K (.Tuple elts kk tpos) (Ite K a) [e, it] e (fun i h => (∃ old, IsEnum h e it ((i : Nat) : Int) old) ∧ h.IsListIter it a i ∧ e ≠ it) where
  mem := by simp
  obj := fun i h st b hb => by
    obtain ⟨⟨old, he⟩, ⟨o, ho, hc, hd⟩, _⟩ := st
    have e' : b = e ∨ b = it := by simpa using hb
    rcases e' with z | z
    · rw [z]; exact ⟨_, he, fun v q => nomatch q⟩
    · rw [z]; exact ⟨o, ho, fun v q => by rw [hd] at q; cases q⟩
  keep := fun i h h' st k => let ⟨⟨old, he⟩, hi, hne⟩ := st; ⟨⟨old, k e (by simp) _ he⟩, hi.at fun o q => k it (by simp) o q, hne⟩
  item := by
    intro X hP hw hK hc i pins s σ H E I hf st hg
    subst hP hw hK
    obtain ⟨⟨old, he⟩, hit, hne⟩ := st
    obtain ⟨xs, x, hq, hx⟩ := hg
    obtain ⟨its, rv, p, hz⟩ := I.list hq
    obtain ⟨u, hu, ru⟩ := rv.get hx
    have hel : e < s.heap.objs.size := Heap.lt_size he
    have hil : it < s.heap.objs.size := by obtain ⟨_, q, _⟩ := hit; exact Heap.lt_size q
    refine wpAny_pyNext_enum_item he hit p.isList (x := u) (by simpa using hu) hne fun h' ho hit' hT hsz hk => ?_
    refine ⟨_, rfl, wpAny_letOwnedTupleGo_enum (s := { s with heap := h', toks := s.toks + 1 }) ho fun h'' he' sb => ?_⟩
    have hT2 : h''.get? s.heap.objs.size = some { cls := .type "tuple", data := .seq #[.int i s.toks, u] } := (sb.2 _ (Nat.ne_of_gt hel)).trans hT
    have new : ObjOk X.prog X.w (upd H s.heap.objs.size (.tup [.int (i : Nat), x])) h'' s.heap.objs.size (.tup [.int (i : Nat), x]) :=
      ⟨by show 2 ≤ sizeLine; decide, [.int i s.toks, u], .cons ⟨_, rfl⟩ (.cons ru .nil), ⟨_, hT2, rfl, _, rfl⟩⟩
    have I1 : Inv X pins σ (upd H s.heap.objs.size (.tup [.int (i : Nat), x])) { s with heap := h'', toks := s.toks + 1 } :=
      I.turnedNew (ch := [e, it]) (fun b ob hb q => (sb.2 b (fun z => hb (by simp [z]))).trans (hk b ob (fun z => hb (by simp [z])) (fun z => hb (by simp [z])) q)) hf (Nat.le_refl _) new
    refine ⟨.ref s.heap.objs.size, _, I1, rfl, ⟨_, x, rfl, I.hok.fresh (Nat.le_refl _), rfl, fun ys hy => by rw [I.list_inj hy hq]; exact hx⟩, ⟨⟨u, ?_⟩, hit'.at fun o q => (sb.2 it (Ne.symm hne)).trans q, hne⟩, fun b hb => ?_⟩
    · have e1 : ((i + 1 : Nat) : Int) = (i : Int) + 1 := by omega
      rw [e1]; exact he'
    · have hb' : b < s.heap.objs.size := by
        have e' : b = e ∨ b = it := by simpa using hb
        rcases e' with z | z
        · rw [z]; exact hel
        · rw [z]; exact hil
      rw [upd_ne (Nat.ne_of_lt hb')]
      exact (hf b hb).1
  done := by
    intro X hP hw hK hc i pins s σ H E I hf st hg
    subst hP hw hK
    obtain ⟨⟨old, he⟩, hit, hne⟩ := st
    obtain ⟨xs, hq, hx⟩ := hg
    obtain ⟨its, rv, p, hz⟩ := I.list hq
    obtain ⟨f0, f1, f2, f3, f4, f5⟩ := hf it (by simp)
    have hl := rv.length
    exact wpAny_pyNext_enum_end (I.ok.hd hc) he hit p.isList (by simp; omega) fun h' eb => ⟨rfl, I.turned (t' := s.toks) (fun b o hb q => eb b o hb q) f0 f1 f3 f4 f5⟩
  self := fun A i s Q E st h => let ⟨⟨_, he⟩, _⟩ := st; wpAny_pyIter_enum he h
def iEnum (K : PySem.W.Frag) (ta : TA) : TI := fun σ H R => ta σ H fun vs H1 => ∃ a xs, vs = [.ref a] ∧ SqL K H1 a xs ∧ R (Ite K a) H1
theorem pi_enum {X : Cx} {e : Expr} {ta : TA} {p pos tpos : Pos} {elts : List Expr} {kk : Nat} (hg : Gl X "enumerate") (hm : X.mg "enumerate" = none) (ha : PA X [e] ta) (hs : starEach [e] X.env = [(false, eval e X.env)] := by rfl) :
    PI X (.Tuple elts kk tpos) (.Call (.Name "enumerate" p) [e] [] pos) (iEnum X.K ta) := by
  intro pins s σ H R I h
  refine Call_ (ld_blt I hg hm boot_enumerate (PyProof.Rows.callWith_type1 (thn (ha pos pins s σ H _ I h) fun us s1 ⟨vs, H1, I1, r1, q1⟩ => ?_) hs rfl))
  obtain ⟨a, xs, ex, hq, q⟩ := q1
  subst ex
  cases r1 with
  | cons r rr =>
    cases rr
    cases r
    obtain ⟨its, rv, p', hz⟩ := I1.list hq
    refine call_enumerate_list p'.isList fun h' he hit hsz hk => wpAny_pyIter_enum he ?_
    have I2 : Inv X pins σ H1 { s1 with heap := h' } := I1.kept (t' := s1.toks) hk
    refine ⟨s1.heap.objs.size + 1, [s1.heap.objs.size + 1, s1.heap.objs.size], _, _, H1, rfl, I2, turn_enum a (s1.heap.objs.size + 1) s1.heap.objs.size, ⟨⟨.none, he⟩, hit, Nat.succ_ne_self _⟩, fun b hb => ?_, q⟩
    have e' : b = s1.heap.objs.size + 1 ∨ b = s1.heap.objs.size := by simpa using hb
    have hle : s1.heap.objs.size ≤ b := by
      rcases e' with z | z
      · rw [z]; exact Nat.le_add_right _ _
      · rw [z]; exact Nat.le_refl _
    exact I1.fpOk hle (I1.hok.fresh hle)
/-! ### zip(list, list) -/
theorem boot_zip5 : bootBuiltins "zip" = some (.type "zip") := by decide +kernel
/-- the lists at a and b as they stand at each turn, the items in new pairs -/
def Itz (K : PySem.W.Frag) (a b : Addr) : It :=
  ⟨fun i H => ∃ (xs ys : List V) (x y : V), SqL K H a xs ∧ SqL K H b ys ∧ xs[i]? = some x ∧ ys[i]? = some y,
    fun i H v H' => ∃ T x y, v = .ref T ∧ H T = none ∧ H' = upd H T (.tup [x, y]) ∧ (∀ xs, SqL K H a xs → xs[i]? = some x) ∧ ∀ ys, SqL K H b ys → ys[i]? = some y,
    fun i H => ∃ xs ys : List V, SqL K H a xs ∧ SqL K H b ys ∧ (xs.length ≤ i ∨ ys.length ≤ i)⟩
theorem turn_zip {P : Program} {w : World} {K : PySem.W.Frag} {elts : List Expr} {kk : Nat} {tpos : Pos} {a b z TI TO i1 i2 : Addr} (D : ZipApart z TI TO i1 i2 a b) :
    Turn P w K (.Tuple elts kk tpos) (Itz K a b) [z, TI, TO, i1, i2] z (fun i h => IsZip h z TI TO .none ∧ IsPair h TI (.ref i1) (.ref i2) ∧ (∃ x y, IsPair h TO x y) ∧ h.IsListIter i1 a i ∧ h.IsListIter i2 b i) where
  mem := by simp
  obj := fun i h st c hc => by
    obtain ⟨hz, hTI, ⟨x, y, hTO⟩, ⟨o1, e1, _, d1⟩, ⟨o2, e2, _, d2⟩⟩ := st
    have e' : c = z ∨ c = TI ∨ c = TO ∨ c = i1 ∨ c = i2 := by simpa using hc
    rcases e' with q | q | q | q | q
    · rw [q]; exact ⟨_, hz, fun v q => nomatch q⟩
    · rw [q]; exact ⟨_, hTI, fun v q => nomatch q⟩
    · rw [q]; exact ⟨_, hTO, fun v q => nomatch q⟩
    · rw [q]; exact ⟨o1, e1, fun v q => by rw [d1] at q; cases q⟩
    · rw [q]; exact ⟨o2, e2, fun v q => by rw [d2] at q; cases q⟩
  keep := fun i h h' st k => by
    obtain ⟨hz, hTI, ⟨x, y, hTO⟩, h1, h2⟩ := st
    exact ⟨k z (by simp) _ hz, k TI (by simp) _ hTI, ⟨x, y, k TO (by simp) _ hTO⟩, h1.at fun o q => k i1 (by simp) o q, h2.at fun o q => k i2 (by simp) o q⟩
  item := by
    intro X hP hw hK hc i pins s σ H E I hf st hg
    subst hP hw hK
    obtain ⟨hz, hTI, ⟨x0, y0, hTO⟩, h1, h2⟩ := st
    obtain ⟨xs, ys, x, y, hqx, hqy, hx, hy⟩ := hg
    obtain ⟨its, rv, p, _⟩ := I.list hqx
    obtain ⟨its2, rv2, p2, _⟩ := I.list hqy
    obtain ⟨u, hu, ru⟩ := rv.get hx
    obtain ⟨u2, hu2, ru2⟩ := rv2.get hy
    have hzl : z < s.heap.objs.size := Heap.lt_size hz
    refine wpAny_pyNext_zip_item D hz hTI hTO h1 h2 p.isList p2.isList (x := u) (y := u2) (by simpa using hu) (by simpa using hu2) fun h' z' TO' h1' h2' hT hsz hk => ?_
    refine ⟨_, rfl, wpAny_letOwnedTupleGo_zip (s := { s with heap := h' }) z' fun h'' z'' sb => ?_⟩
    have hT2 : h''.get? s.heap.objs.size = some { cls := .type "tuple", data := .seq #[u, u2] } := (sb.2 _ (Nat.ne_of_gt hzl)).trans hT
    have new : ObjOk X.prog X.w (upd H s.heap.objs.size (.tup [x, y])) h'' s.heap.objs.size (.tup [x, y]) :=
      ⟨by show 2 ≤ sizeLine; decide, [u, u2], .cons ru (.cons ru2 .nil), ⟨_, hT2, rfl, _, rfl⟩⟩
    have I1 : Inv X pins σ (upd H s.heap.objs.size (.tup [x, y])) { s with heap := h'' } :=
      I.turnedNew (t' := s.toks) (ch := [z, TI, TO, i1, i2]) (fun c o hb q => (sb.2 c (fun q' => hb (by simp [q']))).trans (hk c o (fun q' => hb (by simp [q'])) (fun q' => hb (by simp [q'])) (fun q' => hb (by simp [q'])) (fun q' => hb (by simp [q'])) q)) hf (Nat.le_refl _) new
    refine ⟨.ref s.heap.objs.size, _, I1, rfl, ⟨_, x, y, rfl, I.hok.fresh (Nat.le_refl _), rfl, fun l hl => by rw [I.list_inj hl hqx]; exact hx, fun l hl => by rw [I.list_inj hl hqy]; exact hy⟩, ⟨z'', ?_, ⟨u, u2, ?_⟩, ?_, ?_⟩, fun c hcm => ?_⟩
    · exact (sb.2 _ D.TIz).trans (hk _ _ D.TIz D.TITO D.TIi1 D.TIi2 hTI)
    · exact (sb.2 _ D.TOz).trans TO'
    · exact h1'.at fun o q => (sb.2 _ D.i1z).trans q
    · exact h2'.at fun o q => (sb.2 _ D.i2z).trans q
    · have hlt : c < s.heap.objs.size := by
        have e' : c = z ∨ c = TI ∨ c = TO ∨ c = i1 ∨ c = i2 := by simpa using hcm
        rcases e' with q | q | q | q | q
        · rw [q]; exact hzl
        · rw [q]; exact Heap.lt_size hTI
        · rw [q]; exact Heap.lt_size hTO
        · rw [q]; obtain ⟨_, e1, _⟩ := h1; exact Heap.lt_size e1
        · rw [q]; obtain ⟨_, e2, _⟩ := h2; exact Heap.lt_size e2
      rw [upd_ne (Nat.ne_of_lt hlt)]
      exact (hf c hcm).1
  done := by
    intro X hP hw hK hc i pins s σ H E I hf st hg
    subst hP hw hK
    obtain ⟨hz, hTI, ⟨x0, y0, hTO⟩, h1, h2⟩ := st
    obtain ⟨xs, ys, hqx, hqy, hend⟩ := hg
    obtain ⟨its, rv, p, _⟩ := I.list hqx
    obtain ⟨its2, rv2, p2, _⟩ := I.list hqy
    have l1 := rv.length
    have l2 := rv2.length
    have he : its.toArray[i]? = none ∨ its2.toArray[i]? = none := by
      rcases hend with q | q
      · exact .inl (by simp; omega)
      · exact .inr (by simp; omega)
    exact wpAny_pyNext_zip_end (I.ok.hd hc) D hz hTI hTO h1 h2 p.isList p2.isList he fun h' hk => ⟨rfl, I.turnedL (t' := s.toks) (ch := [z, TI, TO, i1, i2]) (fun c o hb q =>
      hk c o (fun q' => hb (by simp [q'])) (fun q' => hb (by simp [q'])) (fun q' => hb (by simp [q'])) (fun q' => hb (by simp [q'])) q) hf⟩
  self := fun A i s Q E st h => wpAny_pyIter_zip st.1 h
def iZip (K : PySem.W.Frag) (ta : TA) : TI := fun σ H R => ta σ H fun vs H1 => ∃ a b xs ys, vs = [.ref a, .ref b] ∧ SqL K H1 a xs ∧ SqL K H1 b ys ∧ R (Itz K a b) H1
theorem pi_zip {X : Cx} {e e2 : Expr} {ta : TA} {p pos tpos : Pos} {elts : List Expr} {kk : Nat} (hg : Gl X "zip") (hm : X.mg "zip" = none) (ha : PA X [e, e2] ta)
    (hs : starEach [e, e2] X.env = (false, eval e X.env) :: starEach [e2] X.env := by rfl) (hpl : (backTo pos (starEach [e2] X.env)).any (·.1) = false := by rfl) :
    PI X (.Tuple elts kk tpos) (.Call (.Name "zip" p) [e, e2] [] pos) (iZip X.K ta) := by
  intro pins s σ H R I h
  refine Call_ (ld_blt I hg hm boot_zip5 (PyProof.Rows.callWith_type1 (thn (ha pos pins s σ H _ I h) fun us s1 ⟨vs, H1, I1, r1, q1⟩ => ?_) hs hpl))
  obtain ⟨a, b, xs, ys, ex, hqx, hqy, q⟩ := q1
  subst ex
  cases r1 with
  | cons r rr =>
    cases rr with
    | cons r' rr =>
      cases rr
      cases r
      cases r'
      obtain ⟨its, rv, p1, _⟩ := I1.list hqx
      obtain ⟨its2, rv2, p2, _⟩ := I1.list hqy
      have la : a < s1.heap.objs.size := p1.lt
      have lb : b < s1.heap.objs.size := p2.lt
      refine call_zip_2 p1.isList p2.isList fun h' hz hTI hTO h1 h2 hsz hk => wpAny_pyIter_zip hz ?_
      have I2 : Inv X pins σ H1 { s1 with heap := h' } := I1.kept (t' := s1.toks) hk
      refine ⟨s1.heap.objs.size + 4, [s1.heap.objs.size + 4, s1.heap.objs.size + 2, s1.heap.objs.size + 3, s1.heap.objs.size, s1.heap.objs.size + 1], _, _, H1, rfl, I2, turn_zip (PySem.W.ktu_apart s1.heap.objs.size a b la lb), ⟨hz, hTI, ⟨_, _, hTO⟩, h1, h2⟩, fun c hcm => ?_, q⟩
      have e' : c = s1.heap.objs.size + 4 ∨ c = s1.heap.objs.size + 2 ∨ c = s1.heap.objs.size + 3 ∨ c = s1.heap.objs.size ∨ c = s1.heap.objs.size + 1 := by simpa using hcm
      have hle : s1.heap.objs.size ≤ c := by
        rcases e' with z | z | z | z | z
        · rw [z]; exact Nat.le_add_right _ _
        · rw [z]; exact Nat.le_add_right _ _
        · rw [z]; exact Nat.le_add_right _ _
        · rw [z]; exact Nat.le_refl _
        · rw [z]; exact Nat.le_add_right _ _
      exact I1.fpOk hle (I1.hok.fresh hle)
end L2

section 
namespace Bits
open PySem PyProof.Rows

end Bits
end 

section 
namespace TL
open PySem PySem.Builtin PySem.Builtin.Str PySem.StrLaws

abbrev tl (x : Str) : List Nat := x.cps.toList
theorem ext_tl {x y : Str} (h : tl x = tl y) : x = y := Str.ext' (Array.toList_inj.mp h)
theorem tl_append (x y : Str) : tl (x ++ y) = tl x ++ tl y := by
  show (x ++ y).cps.toList = _
  rw [Str.cps_append, Array.toList_append]
theorem tl_ofString (s : String) : tl (Str.ofString s) = s.toList.map Char.toNat := PyProof.Rows.signs_ofString s

/-! ### the list functions -/
/-- S stands at the head of l -/
def pre (S l : List Nat) : Bool := l.take S.length == S
/-- l cut at each S from the left; k signs are still to be passed over -/
def spl (S : List Nat) : Nat → List Nat → List Nat → List (List Nat)
  | _, acc, [] => [acc]
  | 0, acc, c :: r => if pre S (c :: r) = true then acc :: spl S (S.length - 1) [] r else spl S 0 (acc ++ [c]) r
  | k + 1, acc, _ :: r => spl S k acc r
/-- what stands before the first S, and behind it -/
def par (S : List Nat) : List Nat → List Nat → Option (List Nat × List Nat)
  | _, [] => none
  | acc, c :: r => if pre S (c :: r) = true then some (acc, (c :: r).drop S.length) else par S (acc ++ [c]) r

/-! ### the model's split and partition are these -/
/-! ### computing spl and par -/
theorem join_eq (y : Str) (parts : List Str) : Txt.join y parts = Str.join y parts := glued_eq_join y parts
/-! ### digits -/
/-! ### words: x.split() -/
end TL
end 

namespace L2
open PySem PySem.Spec PyProof.Rows

theorem strs_of_vals : ∀ {ys : List Str} {us : List Value}, Vals (ys.map V.str) us → StrsAre us ys
  | [], _, .nil => .nil
  | y :: ys, _, .cons r t => by
    obtain ⟨k, rfl⟩ := r
    exact .cons y k (strs_of_vals t)

section
variable {X : Cx} {pins : List (Addr × Obj)} {σ : St} {H : Hp} {s : Shared} {Q : VK}
end

section
variable {X : Cx}

/-- sep.join(a list | a tuple of texts) -/
theorem mt_join : MtR X "str.join" (fun x xs H Q => ∃ a p, ∃ ys : List Str, x = .str a ∧ xs = [.ref p] ∧ (SqL X.K H p (ys.map V.str) ∨ SqT X.K H p (ys.map V.str)) ∧
    (ys.map (·.length)).sum + ys.length * a.length ≤ 16777216 ∧ Q (.str (Txt.join a ys)) H) := by
  intro pins s σ H x xs v us Q I rx rs h
  obtain ⟨a, p, ys, rfl, rfl, hp, hz, h⟩ := h
  obtain ⟨t, rfl⟩ := rx
  cases rs with
  | cons r1 rs =>
    cases rs
    cases r1
    rcases hp with hp | hp
    · obtain ⟨its, r, ⟨o, n, ho, hc, _, hd⟩, _⟩ := I.list hp
      exact PyProof.Rows.join_list (items := its.toArray) ⟨o, ho, hc, n, hd⟩ (by rw [List.toList_toArray]; exact strs_of_vals r) hz fun t' k => ⟨.str _, H, I.tok k, ⟨t', rfl⟩, h⟩
    · obtain ⟨its, r, ht, _⟩ := I.tuple hp
      exact PyProof.Rows.join_tuple (items := its.toArray) ht (by rw [List.toList_toArray]; exact strs_of_vals r) hz fun t' k => ⟨.str _, H, I.tok k, ⟨t', rfl⟩, h⟩

/-! ### of a text alone -/
/-! ### of a text and a text -/
theorem mt1 {id : String} {g : Str → Str → V} (rule : ∀ (a b : Str) (t u : Tok) (s : Shared) (Q : Value → Shared → Prop), (∀ (v : Value) (k : Nat), RelV (g a b) v → Q v { s with toks := k }) →
    wpAny (model X.prog X.w) X.A (call (.builtin id) [.str a t, .str b u]) Q X.xe s) : MtR X id (fun x xs H Q => ∃ a b, x = .str a ∧ xs = [.str b] ∧ Q (g a b) H) := by
  intro pins s σ H x xs v us Q I rx rs h
  obtain ⟨a, b, rfl, rfl, h⟩ := h
  obtain ⟨t, rfl⟩ := rx
  cases rs with
  | cons r1 rs =>
    cases rs
    obtain ⟨u, rfl⟩ := r1
    exact rule a b t u s _ fun v k r => ⟨g a b, H, I.tok k, r, h⟩
theorem mt_startswith : MtR X "str.startswith" (fun x xs H Q => ∃ a b, x = .str a ∧ xs = [.str b] ∧ Q (.bl (Txt.startswith a b)) H) :=
  mt1 (g := fun a b => .bl (Txt.startswith a b)) fun _ _ _ _ s _ h => PySem.SC.startswith (h _ s.toks rfl)
end

section
variable {X : Cx} {o e : Expr} {to te : TE}
def tM1 (r : V → List V → Hp → VK → Prop) (to te : TE) : TE := fun σ H Q => to σ H fun x H1 => (∃ a, x = .str a) ∧ te σ H1 fun y H2 => r x [y] H2 Q
theorem pe_m1 {id : String} {name : Str} {apos pos : Pos} {r : V → List V → Hp → VK → Prop} (slot : Slot "str" name id) (ty : typeOf (.builtin id) = pure (.type "method_descriptor")) (rule : MtR X id r) (ho : PE X o to) (he : PE X e te)
    (hs : starEach [e] X.env = [(false, eval e X.env)] := by rfl) (hbase : attributeBase o name X.env (eval o X.env) = eval o X.env := by rfl) (hline : (apos.endLine == pos.line) = true := by rfl) :
    PE X (.Call (.Attribute o name apos) [e] [] pos) (tM1 r to te) := by
  intro pins s σ H Q I h
  refine PySem.Call_method1 hbase hs hline (thn (ho pins s σ H _ I h) fun v s1 ⟨x, H1, I1, r1, q1⟩ => ?_)
  obtain ⟨⟨a, rfl⟩, q1⟩ := q1
  obtain ⟨t, rfl⟩ := _root_.id r1
  refine ⟨"str", _, F.plainAttrs_str, slot, ty, typeIs_str _ _ _, (fun _ e => nomatch e), Calls.callWith_builtin rfl (Calls.evalArgs_plain (Calls.spliced_cons ?_))⟩
  exact thn (he pins s1 σ H1 _ I1 q1) fun u s2 ⟨y, H2, I2, r2, q2⟩ => Calls.spliced_nil (rule pins s2 σ H2 _ [y] _ [u] Q I2 r1 (.cons r2 .nil) q2)

theorem pe_join {apos pos : Pos} (ho : PE X o to) (he : PE X e te) (hs : starEach [e] X.env = [(false, eval e X.env)] := by rfl) (hbase : attributeBase o "join" X.env (eval o X.env) = eval o X.env := by rfl) (hline : (apos.endLine == pos.line) = true := by rfl) :
    PE X (.Call (.Attribute o "join" apos) [e] [] pos) (tM1 (fun x xs H Q => ∃ a p, ∃ ys : List Str, x = .str a ∧ xs = [.ref p] ∧ (SqL X.K H p (ys.map V.str) ∨ SqT X.K H p (ys.map V.str)) ∧
      (ys.map (·.length)).sum + ys.length * a.length ≤ 16777216 ∧ Q (.str (Txt.join a ys)) H) to te) :=
  pe_m1 F.slot_str_join F.type_str_join mt_join ho he hs hbase hline
end
end L2

namespace L2
open PySem PySem.Spec PyProof.Rows

section
variable {X : Cx}
end

/-! ### slices of a text -/
theorem IsPart.raw {v : Value} {o : Option Int} (p : IsPart v o) : ∃ l : Option (Int × Tok), v = partValue l ∧ l.map (·.1) = o := by
  cases p with
  | none => exact ⟨none, rfl, rfl⟩
  | int i t => exact ⟨some (i, t), rfl, rfl⟩

/-- a part, clipped, as the text's slice reckons it -/
def clipS (n d : Nat) : Option Int → Int
  | none => (d : Int)
  | some i => max 0 (min (if i < 0 then i + (n : Int) else i) (n : Int))
theorem clipS_eq (n d : Nat) (o : Option Int) : clipS n d o = ((HT.sIx n d o : Nat) : Int) := by
  cases o with
  | none => rfl
  | some v =>
    show max (0 : Int) (min (if v < 0 then v + (n : Int) else v) (n : Int)) = (((if v < 0 then (v + (n : Int)).toNat else min v.toNat n) : Nat) : Int)
    by_cases hv : v < 0
    · simp only [if_pos hv]
      omega
    · simp only [if_neg hv]
      omega
theorem sidx_clip (a b : Option Int) (n : Nat) : Builtin.Str.strSliceIndices a b 1 n = sliceRange (clipS n 0 a) (clipS n n b) 1 := by
  have h1 : ((1 : Int) > 0) = True := by simp
  cases a <;> cases b <;> first
    | rfl
    | (simp only [Builtin.Str.strSliceIndices, clipS, h1, if_true]; rfl)
    | simp [Builtin.Str.strSliceIndices, clipS]
theorem sidx (a b : Option Int) (n : Nat) : Builtin.Str.strSliceIndices a b 1 n = (List.range (HT.sIx n n b - HT.sIx n 0 a)).map (fun k => HT.sIx n 0 a + k) := by
  rw [sidx_clip, clipS_eq, clipS_eq]
  generalize HT.sIx n 0 a = p
  generalize HT.sIx n n b = q
  simp only [sliceRange, show ((1 : Int) > 0) = True from by simp, if_true]
  by_cases hlt : (p : Int) < q
  · have e3 : (((q : Int) - p + 1 - 1) / 1).toNat = q - p := by first | omega | (simp; done) | (simp; omega)
    simp only [hlt, if_true, e3]
    refine List.map_congr_left fun k _ => ?_
    omega
  · have : q - p = 0 := by omega
    simp [hlt, this]

/-- z[lo:hi] -/
def cutS (z : Str) (lo hi : Option Int) : Str :=
  ⟨((z.cps.toList.drop (HT.sIx z.length 0 lo)).take (HT.sIx z.length z.length hi - HT.sIx z.length 0 lo)).toArray⟩
theorem sliceText_cut (z : Str) (lo hi : Option Int) : PySem.StrLaws.sliceText z lo hi = cutS z lo hi := by
  have h1 : HT.sIx z.length 0 lo ≤ z.length := HT.sIx_le _ _ (Nat.zero_le _) _
  have h2 : HT.sIx z.length z.length hi ≤ z.length := HT.sIx_le _ _ (Nat.le_refl _) _
  have hp : HT.sIx z.length 0 lo ≤ max (HT.sIx z.length 0 lo) (HT.sIx z.length z.length hi) := Nat.le_max_left _ _
  have hq : max (HT.sIx z.length 0 lo) (HT.sIx z.length z.length hi) ≤ z.length := Nat.max_le.mpr ⟨h1, h2⟩
  have hd : max (HT.sIx z.length 0 lo) (HT.sIx z.length z.length hi) - HT.sIx z.length 0 lo = HT.sIx z.length z.length hi - HT.sIx z.length 0 lo := by omega
  have e : Builtin.Str.strSliceIndices lo hi 1 z.length =
      Builtin.Str.strSliceIndices (some ((HT.sIx z.length 0 lo : Nat) : Int)) (some ((max (HT.sIx z.length 0 lo) (HT.sIx z.length z.length hi) : Nat) : Int)) 1 z.length := by
    rw [PySem.StrLaws.strSliceIndices_plain hp hq, hd, sidx]
  have e2 : PySem.StrLaws.sliceText z lo hi =
      PySem.StrLaws.sliceText z (some ((HT.sIx z.length 0 lo : Nat) : Int)) (some ((max (HT.sIx z.length 0 lo) (HT.sIx z.length z.length hi) : Nat) : Int)) := by
    unfold PySem.StrLaws.sliceText
    rw [e]
  rw [e2, PySem.StrLaws.sliceText_nat z hp hq, hd]
  rfl
theorem cutS_length (z : Str) (lo hi : Option Int) : (cutS z lo hi).length ≤ z.length := by
  show (((z.cps.toList.drop (HT.sIx z.length 0 lo)).take (HT.sIx z.length z.length hi - HT.sIx z.length 0 lo)).toArray).size ≤ z.cps.size
  rw [List.size_toArray, List.length_take, List.length_drop, Array.length_toList]
  omega
def rSlS : V → Option Int → Option Int → Hp → VK → Prop := fun x lo hi H Q => ∃ z, x = .str z ∧ z.length ≤ sizeLine ∧ Q (.str (cutS z lo hi)) H
theorem sl_str {X : Cx} : SlR X rSlS := by
  intro pins s σ H x v vl vu lo hi sl Q I rx hs pl pu h
  obtain ⟨z, rfl, hz, q⟩ := h
  obtain ⟨t, rfl⟩ := rx
  obtain ⟨os, hos, hcs, hds⟩ := hs
  obtain ⟨l, rfl, rfl⟩ := IsPart.raw pl
  obtain ⟨u, rfl, rfl⟩ := IsPart.raw pu
  refine ⟨"str", _, F.slot_str_getitem.lookup, typeIs_str _ _ _, ?_⟩
  refine wpAny_getItem_str_slice (l := l) (u := u) (st := none) ⟨os, hos, hcs, hds⟩ rfl ?_
  have hl : (PySem.StrLaws.sliceText z (l.map (·.1)) (u.map (·.1))).length ≤ sizeLine := by
    rw [sliceText_cut]
    exact Nat.le_trans (cutS_length z _ _) hz
  rw [← sliceText_cut] at q
  unfold PySem.StrLaws.sliceText at q hl
  show Made.post (if ((1 : Int) == 1 && (Builtin.Str.strSliceIndices (l.map (·.1)) (u.map (·.1)) 1 z.length).length == z.length) = true then Made.val (.str z t)
    else Made.str ⟨((Builtin.Str.strSliceIndices (l.map (·.1)) (u.map (·.1)) 1 z.length).filterMap (z.cps[·]?)).toArray⟩) (EP X pins σ Q) s
  by_cases c : ((1 : Int) == 1 && (Builtin.Str.strSliceIndices (l.map (·.1)) (u.map (·.1)) 1 z.length).length == z.length) = true
  · rw [if_pos c] at q ⊢
    exact ⟨.str z, H, I, ⟨t, rfl⟩, q⟩
  · rw [if_neg c] at q hl ⊢
    exact ⟨hl, .str _, H, I.tok _, ⟨_, rfl⟩, q⟩
end L2

namespace Att
open PySem PySem.W PySem.Calls PyProof.Rows

/-! ### the script -/
theorem ints_of_wellAll {P : Params} {h : Heap} : ∀ (ns : List Int) (vs : List Value), WellAll P h vs (ns.map WData.int) → IntsAre vs ns := by
  intro ns
  induction ns with
  | nil =>
    intro vs w
    rw [List.map_nil] at w
    cases w
    exact .nil
  | cons n ns ih =>
    intro vs w
    rw [List.map_cons] at w
    cases w with
    | cons a b =>
      cases a
      exact .cons _ _ (ih _ b)

theorem script_of {l : OpenLaw} {n : Nat} (hn : l.most = some n) {P : Params} {h : Heap} {args : List WData} {vals : List Value}
    (hpre : l.row.toRowW.claim.pre args = true) (hwl : WellAll P h vals args) :
    ∃ a vs ns, vals = [Value.ref a] ∧ args = [WData.list (ns.map WData.int)] ∧ h.get? a = some { cls := .type "list", data := .seq vs.toArray } ∧ IntsAre vs ns ∧ ns.length ≤ n := by
  have hsh : WShape.hasAll [] args [.list .int] = true := (pre_splitW hpre).1
  have hc : l.pre.holds [] { args := args } = true := (pre_splitW hpre).2
  obtain ⟨d, r, rfl, h1, h2⟩ := hasAllW_cons hsh
  obtain rfl := hasAllW_nil h2
  obtain ⟨xs, rfl, h3⟩ := hasW_list h1
  obtain ⟨ns, rfl⟩ := items_int h3
  have hlen : ns.length ≤ n := by
    unfold OpenLaw.pre at hc
    have h4 : (WTm.not (.lt (.lit (.int (n : Int))) (.len (.arg 0)))).holds [] { args := [.list (ns.map .int)] } = true := by
      have h4 := (holds_andW hc).1
      rw [hn] at h4
      exact h4
    have h5 := condW_of h4 (w_not (w_lt w_lit (w_len_list (w_arg rfl))))
    rw [List.length_map] at h5
    refine Nat.le_of_not_lt fun q => ?_
    have q' : (n : Int) < ((ns.length : Nat) : Int) := by omega
    first
      | (rw [decide_eq_true q'] at h5; exact absurd h5 (by decide))
      | (simp at h5; omega)
  cases hwl with
  | cons w1 w2 =>
    cases w2
    cases w1 with
    | list ho hall => exact ⟨_, _, ns, rfl, rfl, ho, ints_of_wellAll ns _ hall, hlen⟩

theorem post_true (l : OpenLaw) (args : List WData) : l.row.toRowW.claim.post args (.bool true) args = true :=
  postW_of (r := l.row.toRowW) (X := (true == true))
    (show WShape.has [] (.bool true) .bool = true by first | rfl | decide | simp [WShape.has, WShape.arms, WShape.armsAll])
    (show (WTm.eq .res (.lit (.bool true))).value [] { args := args, res := some (.bool true), after := args } = some (.bool (true == true)) from w_eq_bool (w_res rfl) w_lit) rfl

/-! ### the attachment: holds_open's last premise (the goal 'hc' behind k_head) from a wpAny of the law's body -/
/-- the same from a codeAny of the CALL (for a layer whose function contracts speak of calls) -/
theorem attach_call {l : OpenLaw} {n : Nat} {q : Program} {loose : List Str} {XP : (Str → Option Value) → Heap → Prop} {YP : World → Heap → Prop} {d : DefRec}
    (hn : l.most = some n) (hdf : d.params.defaults = [])
    (call : ∀ (w : World) (s₀ s₁ : Shared) (mg mb : Str → Option Value) (fa : Addr) (o : Obj) (pm cd doc : Value) (a : Addr) (vs : List Value) (ns : List Int),
      Ground q loose [] XP w s₀ mg mb s₁.heap → YP w s₁.heap →
      s₁.heap.get? fa = some o → o.data = .func (docDef d.name d.params d.body d.scope pm cd doc) → s₁.heap.CodeRec cd d.name → mg d.name = some (.ref fa) →
      s₁.heap.get? a = some { cls := .type "list", data := .seq vs.toArray } → IntsAre vs ns → ns.length ≤ n → s₁.gens = #[] →
      codeAny (model l.prog w) callerA (.call (.ref fa) ⟨[.ref a], []⟩) (fun r s' => r = .ok (.ret (.bool true)) ∧ OldK s₁.heap s'.heap ∧ s'.os = s₁.os ∧ AllBare s'.gens) s₁) :
    WalkO q loose XP YP l.row.toRowW d [] (fun f vs => PySem.call f vs) := by
  intro w s₀ s₁ mg mb G Y fa o pm cd doc dV kV ho hd hcd hD hmg hg args vals as hpre hlay hrd hwl hlo
  obtain rfl : dV = .none := Dflts.none hD hdf
  obtain rfl : kV = .none := Dflts.noKw hD
  obtain ⟨a, vs, ns, rfl, rfl, hobj, hints, hlen⟩ := script_of hn hpre hwl
  refine enter_call (codeAny_mono (call w s₀ s₁ mg mb fa o pm cd doc a vs ns G Y ho (fd_plain hd) hcd hmg hobj hints hlen hg) fun r s' hq => ?_)
  obtain ⟨rfl, h2, h3, h4⟩ := hq
  exact ⟨.inl ⟨.bool true, .bool true, [], rfl, fun _ => rfl, .bool true, post_true l _, fun _ => ⟨List.Pairwise.nil, fun _ hm => (nomatch hm)⟩⟩, h2, h3, h4⟩

/-! ### rules over ANY heap (no ledger) from facts about the written part K: the library's own take a ledger (News) for what they write -/
section
variable {prog : Program} {w : World} {A : Around} {E : Value → Shared → Prop} {s : Shared} {K : Frag}

/-! the whole heap as the ledger: makes every rule that writes through a ledger a rule over any heap -/
def ledger (h : Heap) (L d : Addr) : List (Addr × Obj) := (List.range h.objs.size).filterMap fun a => if a = L ∨ a = d then none else (h.get? a).map fun o => (a, o)
end
end Att

namespace L2
open PySem PySem.Spec PyProof.Rows

theorem vals_ints : ∀ {vs : List Value} {ns : List Int}, IntsAre vs ns → Vals (ns.map V.int) vs
  | _, _, .nil => .nil
  | _, _, .cons n t h => .cons ⟨t, rfl⟩ (vals_ints h)

end L2

namespace L2
open PySem PySem.Spec PyProof.Rows

end L2

/-! SHORT WORDS over the layer: a def of the text, its body, what a loop and a test want. -/
namespace L2
open PySem PySem.Spec PyProof.Rows

/-! ### the text by places -/
/-- the j-th statement of a class's body -/
def inClass (s : Stmt) (j : Nat) : Stmt := match s with
  | .ClassDef _ _ _ body _ _ _ _ _ _ _ => body.getD j (.Pass ⟨0, 0, 0, 0⟩)
  | _ => .Pass ⟨0, 0, 0, 0⟩
def defArgs (s : Stmt) : Arguments := match s with
  | .FunctionDef _ a _ _ _ _ _ _ _ _ => a
  | _ => { posonlyargs := [], args := [], vararg := none, kwonlyargs := [], kw_defaults := [], kwarg := none, defaults := [] }
def defBody (s : Stmt) : List Stmt := match s with
  | .FunctionDef _ _ b _ _ _ _ _ _ _ => b
  | _ => []
def defScope (s : Stmt) : Scope := match s with
  | .FunctionDef _ _ _ _ _ _ sc _ _ _ => sc
  | _ => { kind := .function, names := [], isGenerator := false, isCoroutine := false }

/-! ### no exception leaves a def -/
abbrev CX0 : CXT := fun _ _ _ _ _ _ => False
abbrev E0 : XK := fun _ _ _ => False
theorem pass0 {X : Cx} : Passes CX0 X E0 := fun _ _ _ _ _ _ _ h => h.elim

/-! ### a def (or method) of the text as it stands behind the top -/
structure Fun (K : PySem.W.Frag) (x qual : Str) (st : Stmt) (f : Addr) (fd : FuncData) : Prop where
  ex : ∃ (oc : Value) (od : Option Addr) (kV doc pm : Value) (an : Option Addr) (cdv ct : Value) (osl : Array (Option Value)),
    fd = PySem.W.fnOf x qual (defArgs st) (defBody st) (defScope st) .none kV doc pm an cdv ct ∧ K.lookup f = some ⟨oc, od, .func fd, osl⟩ ∧ PySem.W.codeIn K cdv qual = true
  kp : PySem.W.keepIn K (.ref f) = true
section
variable {P : Program} {w : World} {K : PySem.W.Frag} {mg : Str → Option Value} {base : Heap}
/-- THE RULE for a def: its body as a term of rules, and the reading of that term -/
theorem Fun.ok {x qual : Str} {st : Stmt} {f : Addr} {fd : FuncData} {N ps : List Str} {k : Nat} {sp : Sp} (F : Fun K x qual st f fd) (S : FnScope N ps (defScope st)) (len : ∀ vs H Q E, sp vs H Q E → vs.length = ps.length)
    (hbody : ∀ (cdv : Value) (A : Around) (outer : List Env) (s : Shared) (H : Hp) (vs : List V) (Q : VK) (E : XK), Room k (A.deeper (envOfC qual (defScope st) s.heap.objs.size f cdv)) → sp vs H Q E →
      ∃ t, PSs (cxOf CX0 P w K mg base N qual (defScope st) f cdv A outer s H E).nox (defBody st) t ∧ t { nx := fun _ H' => Q .non H', rt := Q } (start N vs) H) : FnOk P w K mg base CX0 (k + 1) f fd ps sp := by
  obtain ⟨oc, od, kV, doc, pm, an, cdv, ct, osl, rfl, lk, hcd⟩ := F.ex
  refine fn_of lk hcd S len fun A outer s H vs Q E hr hsp => ?_
  obtain ⟨t, h, q⟩ := hbody cdv A outer s H vs Q E hr hsp
  exact ⟨t, h.nox, q⟩
/-- how its arguments bind (no defaults): h is «fun _ _ _ _ _ _ us hl => match us, hl with | [_, _], _ => rfl», one _ a parameter -/
theorem Fun.binds {x qual : Str} {st : Stmt} {f : Addr} {fd : FuncData} {ps : List Str} (F : Fun K x qual st f fd)
    (h : ∀ (kV doc pm : Value) (an : Option Addr) (cdv ct : Value) (us : List Value), us.length = ps.length → bindArgs (PySem.W.fnOf x qual (defArgs st) (defBody st) (defScope st) .none kV doc pm an cdv ct) ⟨us, []⟩ = pure (ps.zip us)) : Binds K fd ps [] := by
  obtain ⟨oc, od, kV, doc, pm, an, cdv, ct, osl, rfl, lk, hcd⟩ := F.ex
  exact .all (h kV doc pm an cdv ct)
theorem fun_mk {x qual : Str} {st : Stmt} {f : Addr} {oc : Value} {od an : Option Addr} {osl : Array (Option Value)} {kV doc pm cdv ct : Value} (l : K.lookup f = some ⟨oc, od, .func (PySem.W.fnOf x qual (defArgs st) (defBody st) (defScope st) .none kV doc pm an cdv ct), osl⟩)
    (c : PySem.W.codeIn K cdv qual = true) (k : PySem.W.keepIn K (.ref f) = true) : Fun K x qual st f (PySem.W.fnOf x qual (defArgs st) (defBody st) (defScope st) .none kV doc pm an cdv ct) := ⟨⟨oc, od, kV, doc, pm, an, cdv, ct, osl, rfl, l, c⟩, k⟩
end
theorem small1000 {n : Nat} (h : n ≤ 1000) : n < sizeLine := Nat.lt_of_le_of_lt h (by decide)

/-! ### expressions in short: the name that stands in the i-th slot -/
section
variable {X : Cx}
theorem pv (i : Nat) {x : Str} {pos : Pos} (hN : X.N[i]? = some x := by rfl) (hv : Vis X.env.scope x := by first | exact Or.inl rfl | exact Or.inr (Or.inl rfl) | exact Or.inr (Or.inr rfl)) (hd : (x == ("__debug__" : Str)) = false := by decide)
    (hcd : (x == ("__classdict__" : Str)) = false := by decide) : PE X (.Name x pos) (tVar i) := pe_var hN hv hd hcd
end

/-! ### tests -/
theorem iteF {A B : Prop} (h : B) : if false = true then A else B := by
  rw [if_neg Bool.false_ne_true]
  exact h
theorem iteT {A B : Prop} (h : A) : if true = true then A else B := by
  rw [if_pos rfl]
  exact h
theorem ite2 {c A B : Prop} [Decidable c] (h1 : c → A) (h2 : ¬ c → B) : if c then A else B := by
  by_cases h : c
  · rw [if_pos h]
    exact h1 h
  · rw [if_neg h]
    exact h2 h
theorem iteNS {c A B : Prop} [Decidable c] (hc : c) (h : B) : if (!decide c) = true then A else B := by
  rw [decide_eq_true hc]
  exact iteF h

/-! ### heaps -/
/-- all that was tracked is as it was -/
def Same (H H' : Hp) : Prop := ∀ b o, H b = some o → H' b = some o
theorem Same.refl (H : Hp) : Same H H := fun _ _ h => h
theorem Same.trans {H H1 H2 : Hp} (a : Same H H1) (b : Same H1 H2) : Same H H2 := fun c o h => b c o (a c o h)
theorem Same.free {H H' : Hp} (e : Same H H') {l : Addr} (h : H' l = Option.none) : H l = Option.none := by
  cases q : H l with
  | none => rfl
  | some o =>
    rw [e l o q] at h
    cases h
theorem Same.seq {K : PySem.W.Frag} {H H' : Hp} {a : Addr} {xs : List V} (e : Same H H') (h : SqL K H a xs) : SqL K H' a xs := by
  rcases h with (h | ⟨o, h⟩) | h
  · exact .inl (.inl (e _ _ h))
  · exact .inl (.inr ⟨o, e _ _ h⟩)
  · exact .inr h

/-! ### a dict's pairs: keys that differ -/
section
variable {κ : Type} [DecidableEq κ]
end
/-! ### lists -/
theorem at_of {xs : List V} {z : Int} {j : Nat} {v : V} (e : z = (j : Int)) (h : xs[j]? = some v) : atI xs z = some v := by
  rw [e]
  exact atI_nat h
end L2

/-! part Fx -/
set_option Elab.async false
set_option linter.all false
set_option maxRecDepth 100000
namespace L2
open PySem PySem.Spec PyProof.Rows
/-- the objects of ch apart, all is kept; of the frames at fs the slots may change -/
def Sl (fs ch : List Addr) (h h' : Heap) : Prop := ∀ b o, h.get? b = some o → b ∉ ch → (b ∉ fs → h'.get? b = some o) ∧ ∃ sl, h'.get? b = some { o with slots := sl }
theorem Sl.refl {fs ch : List Addr} {h : Heap} : Sl fs ch h h := fun b o e _ => ⟨fun _ => e, o.slots, e⟩
theorem dict_mapF (f : Array Value → Array Value) (o : Obj) : (Obj.mapFields f o).dict = o.dict := by
  obtain ⟨c, d, dt, sl⟩ := o
  cases dt <;> rfl
/-- an exception that flies; φ: what is said of the place in which its newest entry is noted -/
structure Fly (g h : Heap) (H : Hp) (φ : Value → Prop) (bare : Prop) (e : Addr) (C : Value) (d : Option Addr) : Prop where
  ex : ∃ oe vs, h.get? e = some oe ∧ oe.cls = C ∧ oe.dict = d ∧ oe.data = .fields vs ∧ vs[2]? = some .none ∧ g.get? e = none ∧ H e = none ∧
    ((bare ∧ vs[1]? = some .none) ∨ ∃ T oT ts f, vs[1]? = some (.ref T) ∧ g.get? T = none ∧ T ≠ e ∧ H T = none ∧ h.get? T = some oT ∧ oT.data = .fields ts ∧ ts[3]? = some f ∧ φ f)
/-- in a frame at L: just raised, come from a callee, or noted here -/
abbrev FlyIn (g h : Heap) (H : Hp) (L e : Addr) (C : Value) (d : Option Addr) : Prop := Fly g h H (fun f => f = .none ∨ f = rawInt L) True e C d
abbrev FlyHeld (g h : Heap) (H : Hp) (L e : Addr) (C : Value) (d : Option Addr) : Prop := Fly g h H (fun f => f = rawInt L) False e C d
abbrev FlyOut (g h : Heap) (H : Hp) (e : Addr) (C : Value) (d : Option Addr) : Prop := Fly g h H (fun f => f = .none) False e C d
theorem Fly.mono {g h : Heap} {H : Hp} {φ ψ : Value → Prop} {p q : Prop} {e : Addr} {C : Value} {d : Option Addr} (x : Fly g h H φ p e C d) (hφ : ∀ f, φ f → ψ f) (hp : p → q) : Fly g h H ψ q e C d := by
  obtain ⟨oe, vs, a1, a2, a2d, a3, a4, a5, a6, a7⟩ := x.ex
  refine ⟨oe, vs, a1, a2, a2d, a3, a4, a5, a6, ?_⟩
  rcases a7 with ⟨b, c⟩ | ⟨T, oT, ts, f, b1, b2, b3, b4, b5, b6, b7, b8⟩
  · exact .inl ⟨hp b, c⟩
  · exact .inr ⟨T, oT, ts, f, b1, b2, b3, b4, b5, b6, b7, hφ f b8⟩
theorem Fly.older {g g' h : Heap} {H : Hp} {φ : Value → Prop} {p : Prop} {e : Addr} {C : Value} {d : Option Addr} (x : Fly g h H φ p e C d) (k : ∀ b o, g'.get? b = some o → ∃ o', g.get? b = some o') : Fly g' h H φ p e C d := by
  have k' : ∀ b, g.get? b = none → g'.get? b = none := fun b e => by
    cases q : g'.get? b with
    | none => rfl
    | some o => obtain ⟨o', z⟩ := k b o q; rw [e] at z; cases z
  obtain ⟨oe, vs, a1, a2, a2d, a3, a4, a5, a6, a7⟩ := x.ex
  refine ⟨oe, vs, a1, a2, a2d, a3, a4, k' _ a5, a6, ?_⟩
  rcases a7 with ⟨b, c⟩ | ⟨T, oT, ts, f, b1, b2, b3, b4, b5, b6, b7, b8⟩
  · exact .inl ⟨b, c⟩
  · exact .inr ⟨T, oT, ts, f, b1, k' _ b2, b3, b4, b5, b6, b7, b8⟩
/-- what may change beside the frames: records, younger than g, not tracked -/
def ChOk (g h : Heap) (H : Hp) (ch : List Addr) : Prop := ∀ c ∈ ch, H c = none ∧ g.get? c = none ∧ ∃ o vs, h.get? c = some o ∧ o.data = .fields vs
section
variable {M : Model} {A : Around} {E : Value → Shared → Prop} {s : Shared}
/-- a new entry -/
theorem entry_fly {base g : Heap} {H : Hp} {env : Env} {outer : List Env} {L e : Addr} {oe : Obj} {vs : Array Value} {C head : Value} {d : Option Addr} {had : Bool} {Q : Unit → Shared → Prop}
    (hfr : A.frames = some (env :: outer)) (hl : s.heap.FunFrames base (env :: outer)) (hf : env.frame = some L) (hH : ∀ a, s.heap.objs.size ≤ a → H a = none)
    (he : s.heap.get? e = some oe) (hc : oe.cls = C) (hdd : oe.dict = d) (hd : oe.data = .fields vs) (hsz : 1 < vs.size) (h2 : vs[2]? = some .none) (hge : g.get? e = none) (hgs : ∀ a, s.heap.objs.size ≤ a → g.get? a = none) (hn : H e = none)
    (h : ∀ h', Sl (frs (env :: outer)) [e] s.heap h' → s.heap.objs.size ≤ h'.objs.size → FlyHeld g h' H L e C d → Q () { s with heap := h' }) :
    wpAny M A (do let a ← frameOf env; let pl ← entryPlaceOf L had; let b ← EntryCells.newEntry head a .none (rawInt L) .none pl; setField (.ref e) 1 b) Q E s := by
  have hene : e ∉ (env :: outer).filterMap (·.frame) := fun hm => by
    obtain ⟨_, o, ho, hnf⟩ := hl.mem hm
    rw [he] at ho; injection ho with ho; subst ho; exact hnf vs hd
  refine wpAny_bind (wpAny_frameOf_fun hfr hl hf fun h₁ hs₁ => ?_)
  refine wpAny_bind (wpAny_entryPlaceOf fun pl hpl => ?_)
  unfold EntryCells.newEntry newFields
  refine wpAny_bind (wpAny_newObj_type ?_ (hpl.sizeOk5 _ _ _ _ _))
  have he₁ : h₁.get? e = some oe := (hs₁.2.1 e hene).trans he
  have he₂ := Heap.get?_push_of_some (h := h₁) { cls := .type "traceback", dict := none, data := .fields ([head, .ref L, .none, rawInt L, .none] ++ (if pl.isEmpty then List.replicate 6 Value.none else pl)).toArray } he₁
  refine wpAny_setField he₂ hd hsz (h _ ?_ ?_ ?_)
  all_goals
    have hTe : h₁.objs.size ≠ e := Nat.ne_of_gt (Heap.lt_size he₁)
    have hd₃ := Obj.data_mapFields hd (·.setIfInBounds 1 (Value.ref h₁.objs.size))
    have he₃ := Heap.get?_update_self (Obj.mapFields (·.setIfInBounds 1 (Value.ref h₁.objs.size))) he₂ (Obj.isFreed_of_fields hd₃)
    have hT₃ := (Heap.get?_update_other (h₁.push { cls := .type "traceback", dict := none, data := .fields ([head, .ref L, .none, rawInt L, .none] ++ (if pl.isEmpty then List.replicate 6 Value.none else pl)).toArray })
      (Obj.mapFields (·.setIfInBounds 1 (Value.ref h₁.objs.size))) (Ne.symm hTe)).trans (Heap.get?_push_size h₁ rfl)
  · intro b o eb nb
    have nb : b ≠ e := fun z => nb (by simp [z])
    obtain ⟨sl, hs⟩ := hs₁.2.2 b o eb
    have keep : ∀ o', h₁.get? b = some o' → ((h₁.push { cls := .type "traceback", dict := none, data := .fields ([head, .ref L, .none, rawInt L, .none] ++ (if pl.isEmpty then List.replicate 6 Value.none else pl)).toArray }).update e (Obj.mapFields (·.setIfInBounds 1 (Value.ref h₁.objs.size)))).get? b = some o' := fun o' hb => by
      rw [Heap.get?_update_other _ _ (Ne.symm nb)]
      exact Heap.get?_push_of_some _ hb
    exact ⟨fun nf => keep o ((hs₁.2.1 b nf).trans eb), sl, keep _ hs⟩
  · have e1 : h₁.objs.size = s.heap.objs.size := hs₁.1
    rw [Heap.size_after_update, Heap.size_push, e1]
    exact Nat.le_succ _
  · have e1 : h₁.objs.size = s.heap.objs.size := hs₁.1
    refine ⟨_, _, he₃, (Obj.cls_mapFields _ _).trans hc, (dict_mapF _ _).trans hdd, hd₃, by rw [Array.getElem?_setIfInBounds_ne (by decide)]; exact h2, hge, hn, .inr ⟨h₁.objs.size, _, _, _, by simp [hsz], ?_, hTe, ?_, hT₃, rfl, by first | (simp; done) | (rcases hpl with rfl | ⟨_, _, _, _, _, _, _, rfl⟩ <;> simp), rfl⟩⟩
    · exact hgs _ (by rw [e1]; exact Nat.le_refl _)
    · exact hH _ (by rw [e1]; exact Nat.le_refl _)

/-- the frame is noted -/
theorem note_fly {base g : Heap} {H : Hp} {env : Env} {outer : List Env} {L e : Addr} {C : Value} {d : Option Addr} {Q : Unit → Shared → Prop}
    (hfr : A.frames = some (env :: outer)) (hl : s.heap.FunFrames base (env :: outer)) (hf : env.frame = some L) (hH : ∀ a, s.heap.objs.size ≤ a → H a = none) (hgs : ∀ a, s.heap.objs.size ≤ a → g.get? a = none) (F : FlyIn g s.heap H L e C d)
    (h : ∀ h' ch, ChOk g s.heap H ch → Sl (frs (env :: outer)) ch s.heap h' → s.heap.objs.size ≤ h'.objs.size → FlyHeld g h' H L e C d → Q () { s with heap := h' }) : wpAny M A (noteFrame (.ref e) env) Q E s := by
  obtain ⟨oe, vs, he, hcls, hdd, hd, h2, hge, hn, h1⟩ := F.ex
  have hsz : 1 < vs.size := Nat.lt_trans (by decide) (Array.getElem?_eq_some_iff.mp h2).1
  have ce : ChOk g s.heap H [e] := fun c hc => by
    have z : c = e := by simpa using hc
    subst z
    exact ⟨hn, hge, oe, vs, he, hd⟩
  unfold noteFrame
  simp only [hf]
  rcases h1 with ⟨_, h1⟩ | ⟨T, oT, ts, f, h1, hgT, hTe, hnT, hT, hdT, h3, hφ⟩
  · refine wpAny_bind (wpAny_field he hd h1 ?_)
    rw [if_neg (by decide)]
    exact entry_fly (g := g) hfr hl hf hH he hcls hdd hd hsz h2 hge hgs hn fun h' k1 k2 k3 => h h' [e] ce k1 k2 k3
  · refine wpAny_bind (wpAny_field he hd h1 ?_)
    rw [if_pos (show (Value.ref T != Value.none) = true from by simp)]
    refine wpAny_bind (wpAny_field hT hdT h3 ?_)
    rcases hφ with rfl | rfl
    · rw [if_neg (show ¬ ((Value.none == rawInt L) = true) from by simp [rawInt])]
      refine wpAny_bind (wpAny_setField hT hdT (Array.getElem?_eq_some_iff.mp h3).1 ?_)
      have other : ∀ b, b ≠ T → (s.heap.update T (Obj.mapFields (·.setIfInBounds 3 Value.none))).get? b = s.heap.get? b := fun b hb => Heap.get?_update_other _ _ (Ne.symm hb)
      have noRecord : ∀ b o, s.heap.get? b = some o → (∀ vs, o.data ≠ .fields vs) → b ≠ T := fun b o hb hnf q => by
        rw [q, hT] at hb; injection hb with hb; subst hb; exact hnf ts hdT
      have sz : (s.heap.update T (Obj.mapFields (·.setIfInBounds 3 Value.none))).objs.size = s.heap.objs.size := Heap.size_after_update ..
      refine entry_fly (s := { s with heap := s.heap.update T (Obj.mapFields (·.setIfInBounds 3 Value.none)) }) (g := g) hfr (hl.of_keeps fun b o hb hnf => ⟨o, (other b (noRecord b o hb hnf)).trans hb, rfl⟩) hf (fun a ha => hH a (by have : _ ≤ a := ha; rw [sz] at this; exact this)) ((other e (Ne.symm hTe)).trans he) hcls hdd hd hsz h2 hge (fun a ha => hgs a (by have : _ ≤ a := ha; rw [sz] at this; exact this)) hn fun h' k1 k2 k3 => ?_
      refine h h' [e, T] (fun c hc => ?_) (fun b o eb nb => ?_) (by have : _ ≤ h'.objs.size := k2; rw [sz] at this; exact this) k3
      · rcases List.mem_cons.mp hc with z | hc
        · exact ce c (by simp [z])
        · have z : c = T := by simpa using hc
          subst z
          exact ⟨hnT, hgT, oT, ts, hT, hdT⟩
      · have n1 : b ≠ e := fun z => nb (by simp [z])
        have n2 : b ≠ T := fun z => nb (by simp [z])
        exact k1 b o ((other b n2).trans eb) (by simp [n1])
    · rw [if_pos (show (rawInt L == rawInt L) = true from by simp)]
      exact wpAny_pure (h s.heap [] (fun _ z => nomatch z) Sl.refl (Nat.le_refl _) ⟨oe, vs, he, hcls, hdd, hd, h2, hge, hn, .inr ⟨T, oT, ts, _, h1, hgT, hTe, hnT, hT, hdT, h3, rfl⟩⟩)
/-- the place of the flight is set -/
theorem flight_fly {g : Heap} {H : Hp} {e : Addr} {C : Value} {d : Option Addr} {φ : Value → Prop} {fr : Option Addr} {Q : Unit → Shared → Prop} (F : Fly g s.heap H φ False e C d)
    (h : ∀ h' ch, ChOk g s.heap H ch → Sl [] ch s.heap h' → s.heap.objs.size ≤ h'.objs.size → Fly g h' H (fun f => f = fr.elim Value.none fun f => rawInt f) False e C d → Q () { s with heap := h' }) : wpAny M A (setFlight (.ref e) fr) Q E s := by
  obtain ⟨oe, vs, he, hcls, hdd, hd, h2, hge, hn, h1⟩ := F.ex
  rcases h1 with ⟨z, _⟩ | ⟨T, oT, ts, f, h1, hgT, hTe, hnT, hT, hdT, h3, hφ⟩
  · exact z.elim
  have hsz3 : 3 < ts.size := (Array.getElem?_eq_some_iff.mp h3).1
  unfold setFlight
  refine wpAny_bind (wpAny_field he hd h1 ?_)
  rw [if_pos (show (Value.ref T != Value.none) = true from by simp)]
  refine wpAny_setField hT hdT hsz3 (h _ [T] (fun c hc => ?_) (fun b o eb nb => ?_) (Nat.le_of_eq (Heap.size_after_update ..).symm) ?_)
  · have z : c = T := by simpa using hc
    subst z
    exact ⟨hnT, hgT, oT, ts, hT, hdT⟩
  · have n2 : b ≠ T := fun z => nb (by simp [z])
    have k : ∀ φ, (s.heap.update T φ).get? b = s.heap.get? b := fun φ => Heap.get?_update_other _ _ (Ne.symm n2)
    exact ⟨fun _ => (k _).trans eb, o.slots, (k _).trans eb⟩
  · exact ⟨oe, vs, (Heap.get?_update_other _ _ hTe).trans he, hcls, hdd, hd, h2, hge, hn, .inr ⟨T, _, _, _, h1, hgT, hTe, hnT, Heap.get?_update_self _ hT (Obj.isFreed_of_fields (Obj.data_mapFields hdT _)), Obj.data_mapFields hdT _, by simp [hsz3], rfl⟩⟩
/-- .. where a traceback stands already -/
theorem back_fly {g : Heap} {H : Hp} {e : Addr} {C : Value} {d : Option Addr} {φ : Value → Prop} {env : Env} {Q : Value → Shared → Prop} (F : Fly g s.heap H φ False e C d)
    (h : ∀ h' ch, ChOk g s.heap H ch → Sl [] ch s.heap h' → s.heap.objs.size ≤ h'.objs.size → Fly g h' H (fun f => f = env.frame.elim Value.none fun f => rawInt f) False e C d → Q (.ref e) { s with heap := h' }) : cameBackBy M A env Q (.ref e) s := by
  obtain ⟨oe, vs, he, hcls, hdd, hd, h2, hge, hn, h1⟩ := id F.ex
  rcases h1 with ⟨z, _⟩ | ⟨T, oT, ts, f, h1, hgT, hTe, hnT, hT, hdT, h3, hφ⟩
  · exact z.elim
  unfold cameBackBy
  refine wpAny_bind (wpAny_field he hd h1 ?_)
  rw [if_neg (show ¬ ((Value.ref T == Value.none) = true) from by simp)]
  first
    | exact flight_fly F h
    | exact wpAny_bind (wpAny_pure (flight_fly F h))
end
end L2

/-! part Fy -/
set_option Elab.async false
set_option linter.all false
set_option maxRecDepth 100000
namespace L2
open PySem PySem.Spec PyProof.Rows
/-- a def's own frame runs -/
structure Own (X : Cx) : Prop where
  pn : X.pn = []
  stk : X.stack = X.env :: X.outer
  fr : X.env.frame = some X.env.locals
  ex : X.ex = []
section
variable {X : Cx} {σ : St} {H : Hp} {s : Shared} {E : XK}
theorem Sl.mono {fs fs' ch : List Addr} {h h' : Heap} (x : Sl fs ch h h') (k : ∀ b ∈ fs, b ∈ fs') : Sl fs' ch h h' := fun b o e n => ⟨fun nf => (x b o e n).1 fun z => nf (k b z), (x b o e n).2⟩
theorem Inv.stepW {pins : List (Addr × Obj)} {H' : Hp} {h' : Heap} {g' : Array GenState} {t' : Nat} {d' : Drawn} {ch : List Addr} (I : Inv X pins σ H s)
    (hch : ∀ b ∈ ch, (b ∈ X.ex ∨ X.s_0.heap.get? b = none) ∧ b ≠ X.env.locals ∧ (∀ x c, X.env.cells.lookup x = some c → c ≠ b) ∧ ∀ p ∈ X.pn ++ pins, p.1 ≠ b)
    (keep : ∀ b o, b ≠ X.env.locals → b ∉ X.fs → b ∉ ch → s.heap.get? b = some o → H b = none → h'.get? b = some o)
    (slot : ∀ b o, b ≠ X.env.locals → b ∈ X.fs → b ∉ ch → s.heap.get? b = some o → H b = none → ∃ sl, h'.get? b = some { o with slots := sl }) (free : ∀ b o, b ∉ ch → s.heap.get? b = some o → H b = none → H' b = none)
    (there : ∀ b o, b ∉ ch → s.heap.get? b = some o → ∃ o', h'.get? b = some o')
    (tups : ∀ b xs, H b = some (.tup xs) → H' b = some (.tup xs)) (frzs : ∀ b o u, H b = some (.frz o u) → H' b = some (.frz o u)) (tbls : ∀ b ps, H b = some (.tbl ps) → ∃ more, H' b = some (.tbl (ps ++ more)))
    (ns : ∀ m, s.heap.Ns X.env.locals m → h'.Ns X.env.locals m) (hok : HOk X.prog X.w H' h') (hg : AllBare g') :
    Inv X pins σ H' { s with heap := h', gens := g', drawn := d', toks := t' } := by
  have neL : ∀ b o, X.s_0.heap.get? b = some o → b ≠ X.env.locals := fun b o e => Nat.ne_of_lt (Nat.lt_of_lt_of_le (Heap.lt_size e) I.ok.above)
  have neC : ∀ b o, X.s_0.heap.get? b = some o → b ∉ X.ex → b ∉ ch := fun b o e hx hb => by
    rcases (hch b hb).1 with z | z
    · exact hx z
    · rw [e] at z; cases z
  have cellK : ∀ x c, X.env.cells.lookup x = some c → ∀ v, s.heap.IsCell c v → h'.IsCell c v := fun x c e v ⟨o, ho, hd⟩ => by
    have nch : c ∉ ch := fun z => (hch c z).2.2.1 x c e rfl
    by_cases hc : c ∈ X.fs
    · obtain ⟨sl, q⟩ := slot c o (I.cne x c e) hc nch ho (I.freeC x c e)
      exact ⟨_, q, hd⟩
    · exact ⟨o, keep c o (I.cne x c e) hc nch ho (I.freeC x c e), hd⟩
  refine ⟨I.ok, I.os, hg, ⟨fun b o e n hb hx => ?_, fun b o e n hb hx => ?_, fun b o e n hx => ?_, fun b o e hx => ?_, fun b xs e => tups b xs (I.base.tups b xs e), fun b o xs e => frzs b o xs (I.base.frzs b o xs e), fun b ps e => ?_⟩, ?_, fun x c e => ?_, ?_, fun x c e => ?_, fun p hp => ?_, hok, I.len⟩
  · exact keep b o (neL b o e) hb (neC b o e hx) (I.base.keep b o e n hb hx) (I.base.free b o e n hx)
  · obtain ⟨sl, e1⟩ := I.base.slot b o e n hb hx
    obtain ⟨sl', e2⟩ := slot b _ (neL b o e) hb (neC b o e hx) e1 (I.base.free b o e n hx)
    exact ⟨sl', e2⟩
  · obtain ⟨o', e1⟩ := I.base.there b o e hx
    exact free b o' (neC b o e hx) e1 (I.base.free b o e n hx)
  · obtain ⟨o', e1⟩ := I.base.there b o e hx
    exact there b o' (neC b o e hx) e1
  · obtain ⟨m1, e1⟩ := I.base.tbls b ps e
    obtain ⟨m2, e2⟩ := tbls b _ e1
    exact ⟨m1 ++ m2, by rw [e2, Array.append_assoc]⟩
  · obtain ⟨m, hn, hl⟩ := I.loc
    refine ⟨m, ns m hn, fun i x v e1 e2 e3 => ?_⟩
    obtain ⟨u, r, l⟩ := hl i x v e1 e2 e3
    refine ⟨u, r, ?_⟩
    rcases l with l | ⟨k, c, e, z⟩
    · exact .inl l
    · exact .inr ⟨k, c, e, cellK x c e _ z⟩
  · obtain ⟨v, z⟩ := I.cell x c e
    exact ⟨v, cellK x c e v z⟩
  · obtain ⟨m, ⟨o, _, _, ho, _⟩, _⟩ := I.loc
    exact free _ o (fun z => (hch _ z).2.1 rfl) ho I.free
  · obtain ⟨v, o, ho, hd⟩ := I.cell x c e
    exact free c o (fun z => (hch c z).2.2.1 x c e rfl) ho (I.freeC x c e)
  · obtain ⟨e, n, ne, nf, d⟩ := I.pin p hp
    have nch : p.1 ∉ ch := fun z => (hch p.1 z).2.2.2 p hp rfl
    exact ⟨keep p.1 p.2 ne nf nch e n, free p.1 p.2 nch e n, ne, nf, d⟩
theorem Inv.moved {pins : List (Addr × Obj)} {h' : Heap} {ch : List Addr} (I : Inv X pins σ H s) (hpn : ∀ c ∈ ch, ∀ p ∈ X.pn ++ pins, p.1 ≠ c) (hc : ChOk X.s_0.heap s.heap H ch) (hs : Sl (frs X.stack) ch s.heap h') : Inv X pins σ H { s with heap := h' } := by
  have un : Un (frs X.stack) ch H H s.heap h' := ⟨fun b o q n hb hx => (hs b o q hx).1 hb, fun b o q n hb hx => (hs b o q hx).2, fun b o q n _ => n, fun b o q hx => ⟨_, (hs b o q hx).2.choose_spec⟩, fun _ _ q => q, fun _ _ _ q => q, fun _ ps q => ⟨#[], by rw [q]; simp⟩⟩
  have hok : HOk X.prog X.w H h' := fun b o e => (I.hok b o e).stay (fun c u hcc q => by
    have nn : H c ≠ none := by
      rcases hcc with z | z
      · rw [z, e]; simp
      · rw [z]; simp
    exact (hs c u q fun z => nn (hc c z).1).1 fun z => nn (I.stkFree c z)) (fun _ q => q) fun _ _ q => q
  have hch : ∀ b ∈ ch, (b ∈ X.ex ∨ X.s_0.heap.get? b = none) ∧ b ≠ X.env.locals ∧ (∀ x c, X.env.cells.lookup x = some c → c ≠ b) ∧ ∀ p ∈ X.pn ++ pins, p.1 ≠ b := fun b hb => ?_
  · obtain ⟨m, ⟨o, es, ep, ho, r⟩, _⟩ := id I.loc
    obtain ⟨sl, hL⟩ := un.any ho I.free fun z => (hch _ z).2.1 rfl
    exact I.stepW (g' := s.gens) (t' := s.toks) (d' := s.drawn) (ch := ch) hch (fun b o hL hb hc e n => un.keep b o e n (fun z => (List.mem_cons.mp (I.stkSub b z)).elim hL hb) hc) (fun b o _ _ hc e n => un.any e n hc) (fun b o hc e n => un.free b o e n hc) (fun b o hc e => un.there b o e hc) un.tups un.frzs un.tbls (fun m' hm => by
      obtain ⟨o', es', ep', ho', r'⟩ := hm
      rw [ho] at ho'; cases ho'
      exact ⟨_, es', ep', hL, r'⟩) hok I.bare
  obtain ⟨_, hge, o, vs, ho, hd⟩ := hc b hb
  refine ⟨.inr hge, fun z => ?_, fun x c e z => ?_, fun p hp z => hpn b hb p hp z⟩
  · obtain ⟨m, ⟨o', es, ep, ho', hd', _⟩, _⟩ := I.loc
    rw [← z, ho] at ho'; cases ho'; rw [hd] at hd'; cases hd'
  · obtain ⟨v, o', ho', hd'⟩ := I.cell x c e
    rw [z, ho] at ho'; cases ho'; rw [hd] at hd'; cases hd'
/-- an exception flies in this body -/
def XI (X : Cx) (E : XK) (e : Value) (s : Shared) : Prop := ∃ a C d σ H, e = .ref a ∧ Inv X [] σ H s ∧ FlyIn X.s_0.heap s.heap H X.env.locals a C d ∧ E C d H
/-- an exception has left a def -/
def CXE (P : Program) (w : World) : CXT := fun outer H s E e s' => ∃ a C d H', e = .ref a ∧ s'.os = s.os ∧ AllBare s'.gens ∧ Un (frs outer) [] H H' s.heap s'.heap ∧ HOk P w H' s'.heap ∧ FlyOut s.heap s'.heap H' a C d ∧ E C d H'
theorem Inv.note {M : Model} {a : Addr} {C : Value} {d : Option Addr} {Q : Unit → Shared → Prop} {E' : Value → Shared → Prop} (O : Own X) (I : Inv X [] σ H s) (F : FlyIn X.s_0.heap s.heap H X.env.locals a C d)
    (h : ∀ h', Inv X [] σ H { s with heap := h' } → FlyHeld X.s_0.heap h' H X.env.locals a C d → Q () { s with heap := h' }) : wpAny M X.A (noteFrame (.ref a) X.env) Q E' s := by
  refine note_fly (base := X.base) (outer := X.outer) (I.ok.frames.trans (by rw [O.stk])) (by rw [← O.stk]; exact I.stack) O.fr (fun b hb => I.hok.fresh hb) (fun b hb => Heap.get?_none_of_le (Nat.le_trans I.sz hb)) F fun h' ch k1 k2 _ k4 => ?_
  exact h h' (I.moved (fun c _ p hp => by rw [O.pn] at hp; simp at hp) k1 (by rw [O.stk]; exact k2)) k4
theorem Inv.flight {M : Model} {A : Around} {a : Addr} {C : Value} {d : Option Addr} {φ : Value → Prop} {fr : Option Addr} {Q : Unit → Shared → Prop} {E' : Value → Shared → Prop} (hpn : X.pn = []) (I : Inv X [] σ H s) (F : Fly X.s_0.heap s.heap H φ False a C d)
    (h : ∀ h', Inv X [] σ H { s with heap := h' } → Fly X.s_0.heap h' H (fun f => f = fr.elim Value.none fun f => rawInt f) False a C d → Q () { s with heap := h' }) : wpAny M A (setFlight (.ref a) fr) Q E' s := by
  refine flight_fly F fun h' ch k1 k2 _ k4 => h h' (I.moved (fun c _ p hp => by rw [hpn] at hp; simp at hp) k1 (k2.mono fun b z => nomatch z)) k4
theorem Inv.back {M : Model} {A : Around} {a : Addr} {C : Value} {d : Option Addr} {φ : Value → Prop} {Q : Value → Shared → Prop} (hpn : X.pn = []) (I : Inv X [] σ H s) (F : Fly X.s_0.heap s.heap H φ False a C d)
    (h : ∀ h', Inv X [] σ H { s with heap := h' } → Fly X.s_0.heap h' H (fun f => f = X.env.frame.elim Value.none fun f => rawInt f) False a C d → Q (.ref a) { s with heap := h' }) : cameBackBy M A X.env Q (.ref a) s := by
  refine back_fly F fun h' ch k1 k2 _ k4 => h h' (I.moved (fun c _ p hp => by rw [hpn] at hp; simp at hp) k1 (k2.mono fun b z => nomatch z)) k4
/-- through a loop of the body -/
theorem XI.own {M : Model} (O : Own X) : PassesOwn M X.A X.env (XI X E) := fun e s' ⟨a, C, d, σ, H, he, I, F, q⟩ => by
  subst he
  refine I.note O F fun h1 I1 F1 => ?_
  refine I1.back O.pn F1 fun h2 I2 F2 => ⟨a, C, d, σ, H, rfl, I2, F2.mono (fun f z => .inr (z.trans (by rw [O.fr]; rfl))) (fun z => z.elim), q⟩
/-- from a callee -/
theorem XI.pass {P : Program} {w : World} (O : Own X) (hP : X.prog = P) (hw : X.w = w) : Passes (CXE P w) (X.wish (XI X E)) E := fun pins σ H s e s' I ⟨a, C, d, H', he, os, bare, un, hok, F, q⟩ => by
  have I := I.unwish
  have I1 : Inv X pins σ H' s' := I.call' (ch := []) os un (by rw [hP, hw]; exact hok) bare (fun b z => nomatch z)
  exact ⟨a, C, d, σ, H', he, I1.pins_of (fun _ z => nomatch z), (F.older fun b o e => I.base.there b o e (by rw [O.ex]; simp)).mono (fun f z => .inl z) (fun z => z.elim), q⟩
end
section
variable {P : Program} {w : World} {K : PySem.W.Frag} {mg : Str → Option Value} {base : Heap}
abbrev cxX (P : Program) (w : World) (K : PySem.W.Frag) (mg : Str → Option Value) (base : Heap) (N : List Str) (qual : Str) (scope : Scope) (f : Addr) (cd : Value) (A : Around) (outer : List Env) (s : Shared) (H : Hp) (E : XK) : Cx :=
  (cxOf (CXE P w) P w K mg base N qual scope f cd A outer s H E).wish (XI (cxOf (CXE P w) P w K mg base N qual scope f cd A outer s H E) E)
theorem own_of {N : List Str} {qual : Str} {scope : Scope} {f : Addr} {cd : Value} {A : Around} {outer : List Env} {s : Shared} {H : Hp} {E : XK} : Own (cxOf (CXE P w) P w K mg base N qual scope f cd A outer s H E) := ⟨rfl, rfl, rfl, rfl⟩
theorem XI.leaves {N : List Str} {qual : Str} {scope : Scope} {f : Addr} {cd : Value} {A : Around} {outer : List Env} {s : Shared} {H : Hp} {E : XK} {e : Value} {s' : Shared} (x : XI (cxOf (CXE P w) P w K mg base N qual scope f cd A outer s H E) E e s') :
    (cxOf (CXE P w) P w K mg base N qual scope f cd A outer s H E).xe e s' := by
  obtain ⟨a, C, d, σ, H', rfl, I, F, q⟩ := x
  show wpAny _ _ (leaving _ _) _ _ _
  unfold leaving
  refine wpAny_bind (I.note own_of F fun h1 I1 F1 => ?_)
  refine I1.flight rfl F1 fun h2 I2 F2 => ?_
  exact ⟨a, C, d, H', rfl, I2.os, I2.bare, I2.base, I2.hok, F2.mono (fun f z => z) (fun z => z.elim), q⟩
/-- THE RULE for a def out of which an exception may come -/
theorem Fun.okX {x qual : Str} {st : Stmt} {f : Addr} {fd : FuncData} {N ps : List Str} {k : Nat} {sp : Sp} (F : Fun K x qual st f fd) (S : FnScope N ps (defScope st)) (len : ∀ vs H Q E, sp vs H Q E → vs.length = ps.length)
    (hbody : ∀ (cdv : Value) (A : Around) (outer : List Env) (s : Shared) (H : Hp) (vs : List V) (Q : VK) (E : XK), Room k (A.deeper (envOfC qual (defScope st) s.heap.objs.size f cdv)) → sp vs H Q E →
      ∃ t, PSs (cxX P w K mg base N qual (defScope st) f cdv A outer s H E) (defBody st) t ∧ t { nx := fun _ H' => Q .non H', rt := Q } (start N vs) H) : FnOk P w K mg base (CXE P w) (k + 1) f fd ps sp := by
  obtain ⟨oc, od, kV, doc, pm, an, cdv, ct, osl, rfl, lk, hcd⟩ := F.ex
  refine fn_of lk hcd S len fun A outer s H vs Q E hr hsp => ?_
  obtain ⟨t, h, q⟩ := hbody cdv A outer s H vs Q E hr hsp
  refine ⟨t, fun pins s1 σ H1 D I hw => ?_, q⟩
  exact wpAny_mono (h pins s1 σ H1 D (I.wish _) hw) (fun _ _ q => q.unwish) fun _ _ z => XI.leaves z
end
end L2

/-! part Fz -/
set_option Elab.async false
set_option linter.all false
set_option maxRecDepth 100000
namespace L2
open PySem PySem.Spec PyProof.Rows
theorem ObjOk.there {P : Program} {w : World} {H : Hp} {h : Heap} {a : Addr} {o : HO} (x : ObjOk P w H h a o) : ∃ u, h.get? a = some u := by
  cases o with
  | lst xs => obtain ⟨_, _, _, _, e⟩ := x; exact ⟨_, e⟩
  | tup xs => obtain ⟨_, _, _, o, e, _⟩ := x; exact ⟨_, e⟩
  | dK kvs => obtain ⟨_, _, _, _, o, _, _, e, _⟩ := x; exact ⟨_, e⟩
  | dT kvs => obtain ⟨_, _, _, _, o, _, _, e, _⟩ := x; exact ⟨_, e⟩
  | set S n => obtain ⟨o, _, _, _, e, _⟩ := x; exact ⟨_, e⟩
  | ins C dx fs => obtain ⟨_, _, _, e, _⟩ := x; exact ⟨_, e⟩
  | own y => obtain ⟨_, e⟩ := x; exact ⟨_, e⟩
  | xd fs => obtain ⟨_, ⟨_, _, _, e, _⟩, _⟩ := x; exact ⟨_, e⟩
  | rng lo hi => obtain ⟨_, _, _, e⟩ := x; exact ⟨_, e⟩
  | frz ob u => obtain ⟨e, _⟩ := x; exact ⟨_, e⟩
  | tbl ps => exact ⟨_, (show h.get? a = some _ from x)⟩
  | met f y => exact ⟨_, (show h.get? a = some _ from x)⟩
  | ext φ => obtain ⟨_, ⟨_, e⟩, _⟩ := x; exact ⟨_, e⟩
theorem HOk.none_of {P : Program} {w : World} {H : Hp} {h : Heap} {a : Addr} (x : HOk P w H h) (e : h.get? a = none) : H a = none := by
  cases q : H a with
  | none => rfl
  | some o => obtain ⟨u, z⟩ := (x a o q).there; rw [e] at z; cases z
theorem own_in {K : PySem.W.Frag} {h : Heap} {mg : Str → Option Value} {x : Str} {C : Addr} {bmB : List Value} {newId : String} (X : K.In h) (e : mg x = some (.ref C)) (q : PySem.W.excIn K C bmB newId = true) : OwnCls x C bmB newId mg h := by
  refine ⟨e, ?_⟩
  unfold PySem.W.excIn at q
  split at q
  · rename_i dd cd sl ho
    split at q
    · rename_i C' bm k0 k1 k2 k3 n k5 hm hs
      simp only [Bool.and_eq_true, beq_iff_eq, Bool.not_eq_true'] at q
      obtain ⟨⟨⟨⟨⟨rfl, rfl⟩, hdel⟩, ht⟩, hok⟩, hni⟩ := q
      obtain ⟨nm, bs, mro, ns, qn, hd, sn, sub, ab, col, del⟩ := cd
      dsimp only at hm hdel hok hni
      subst hm hdel
      have hsl : sl = #[k0, k1, k2, k3, some (.builtin n), k5] := by
        obtain ⟨l⟩ := sl
        simp only at hs
        rw [hs]
      subst hsl
      exact ⟨bm, ns, nm, qn, bs, hd, sn, sub, ab, col, dd, k0, k1, k2, k3, k5, _, X _ _ ho, .of_isNs (PySem.W.isNs_of_in X hok), PySem.W.nsMap_none_of_in X hok hni, PySem.W.tail_of_in X ht⟩
    · cases q
  · cases q
section
variable {X : Cx} {E : XK} {x : Str} {np cpos pos : Pos} {e₀ : Expr} {es : List Expr} {t : TA} {C : Addr} {B newId initId : String} {bmB : List Value}
/-- a new exception of an own class flies -/
theorem Inv.madeX {pins : List (Addr × Obj)} {σ : St} {H : Hp} {s : Shared} {h' : Heap} {e : Addr} {vs : List Value} (O : Own X) (I : Inv X pins σ H s) (hx : Heap.MadeExcOf s.heap h' e (.ref C) vs) (q : E (.ref C) none H) : XI X E (.ref e) { s with heap := h' } := by
  have I1 : Inv X pins σ H { s with heap := h' } := I.kept (t' := s.toks) hx.keeps
  obtain ⟨t, he, _, _⟩ := hx.there
  refine ⟨e, .ref C, none, σ, H, rfl, I1.pins_of (fun _ z => nomatch z), ⟨_, _, he, rfl, rfl, rfl, rfl, ?_, I.hok.none_of hx.new, .inl ⟨trivial, rfl⟩⟩, q⟩
  cases z : X.s_0.heap.get? e with
  | none => rfl
  | some o => obtain ⟨o', z'⟩ := I.base.there e o z (by rw [O.ex]; simp); rw [hx.new] at z'; cases z'
def tRaise (C : Addr) (E : XK) (t : TA) : TS := fun _ σ H => t σ H fun vs H1 => vs.length ≤ sizeLine ∧ E (.ref C) none H1
/-- raise C(e, ..) of an own class without an own __init__ -/
theorem ps_raise (O : Own X) (hc : X.calm = true) (hg : Gl X x) (hm : X.mg x = some (.ref C)) (q : PySem.W.excIn X.K C bmB newId = true) (FB : ExcBaseFacts B newId initId bmB) (ha : PA (X.wish (XI X E)) (e₀ :: es) t)
    (he : starEach (e₀ :: es) X.env = (false, eval e₀ X.env) :: starEach es X.env := by rfl) (hplain : (backTo cpos (starEach es X.env)).any (·.1) = false := by rfl) (hd : (x == ("__debug__" : Str)) = false := by decide) :
    PS (X.wish (XI X E)) (.Raise (some (.Call (.Name x np) (e₀ :: es) [] cpos)) none pos) (tRaise C E t) := by
  intro pins s σ H D I h
  have OC := own_in (x := x) (mg := X.mg) I.ok.mod.kin hm q
  obtain ⟨tl, N, nm, qn, bs, hdct, sn, sub, ab, col, dd, k0, k1, k2, k3, k5, mN, hC, hN, hni, T⟩ := OC.obj
  refine wpAny_Raise_call_subT (C := C) (nm := nm) (q := qn) (N := N) (bs := bs) (bm := tl) (hdct := hdct) (sn := sn) (sub := sub) (ab := ab) (col := col) (dd := dd) (k0 := k0) (k1 := k1) (k2 := k2) (k3 := k3) (k5 := k5)
    FB (mN := mN) (T.hasType FB.hasBase) (I.ok.hd hc) (by rw [he]; show (false || (backTo cpos (starEach es X.env)).any (·.1)) = false; rw [hplain]; rfl) hni (ld_glob I hg hm ⟨rfl, ?_⟩ hd)
  have h1 := ha cpos pins s σ H _ I h
  rw [he] at h1 ⊢
  refine Calls.evalArgs_plain (wpAny_mono h1 (fun us s2 ⟨vs, H1, I1, r, hz, q1⟩ => ?_) fun _ _ y => y)
  have bk := I1.bk
  refine ⟨rfl, by rw [← r.length]; exact hz, bk _ _ hC, hN.keeps bk, T.keeps bk, fun h' e hx => I1.unwish.madeX O hx q1⟩
end
end L2

/-! part Ff -/
set_option Elab.async false
set_option linter.all false
set_option maxRecDepth 100000
namespace L2
open PySem PySem.Spec PyProof.Rows
/-! texts written with f"..": the parts from the left -/
abbrev TJ := Str → St → Hp → (Str → Hp → Prop) → Prop
def PJ (X : Cx) (es : List Expr) (t : TJ) : Prop :=
  ∀ (pins : List (Addr × Obj)) (s : Shared) (σ : St) (H : Hp) (out : Str) (Q : Str → Hp → Prop), Inv X pins σ H s → t out σ H Q → wpAny (model X.prog X.w) X.A (joinParts out (evalEach es X.env)) (EP X pins σ fun v H' => ∃ z, v = .str z ∧ Q z H') X.xe s
section
variable {X : Cx} {e : Expr} {es : List Expr} {te : TE} {tj : TJ} {pos : Pos}
def jNil : TJ := fun out _ H Q => out.length ≤ sizeLine ∧ Q out H
def jCons (te : TE) (tj : TJ) : TJ := fun out σ H Q => te σ H fun x H1 => ∃ y, x = .str y ∧ (out ++ y).length ≤ sizeLine ∧ tj (out ++ y) σ H1 Q
theorem pj_nil : PJ X [] jNil := fun pins s σ H out Q I h => joinParts_nil (s := s) ⟨.str out, H, I.tok _, ⟨_, rfl⟩, _, rfl, h.2⟩ h.1
theorem pj_cons (h1 : PE X e te) (h2 : PJ X es tj) (he : evalEach (e :: es) X.env = eval e X.env :: evalEach es X.env := by rfl) : PJ X (e :: es) (jCons te tj) := by
  intro pins s σ H out Q I h
  rw [he]
  refine joinParts_cons (thn (h1 pins s σ H _ I h) fun v s1 ⟨x, H1, I1, r, y, ex, hz, q⟩ => ?_)
  subst ex
  obtain ⟨t, rfl⟩ := r
  exact ⟨hz, h2 pins s1 σ H1 _ Q I1 q⟩
def tFs (tj : TJ) : TE := fun σ H Q => tj Str.empty σ H fun z H1 => Q (.str z) H1
theorem pe_fs {e' : Expr} (h : PJ X (e :: e' :: es) tj) : PE X (.JoinedStr (e :: e' :: es) pos) (tFs tj) := fun pins s σ H Q I hq => by
  refine JoinedStr_many ?_
  refine thn (h pins s σ H Str.empty _ I hq) fun v s1 ⟨x, H1, I1, r, z, ex, q⟩ => ?_
  subst ex
  exact ⟨.str z, H1, I1, r, q⟩
def tFmtI (te : TE) : TE := fun σ H Q => te σ H fun x H1 => ∃ i : Int, x = .int i ∧ i.natAbs.log2 < 1920 ∧ Q (.str (Str.ofString (toString i))) H1
theorem pe_fmtI (h : PE X e te) : PE X (.FormattedValue e (-1) none pos) (tFmtI te) := fun pins s σ H Q I hq => by
  refine FormattedValue_plain (thn (h pins s σ H _ I hq) fun v s1 ⟨x, H1, I1, r, i, ex, hz, q⟩ => ?_)
  subst ex
  obtain ⟨t, rfl⟩ := r
  exact formatField_int_small hz ⟨.str _, H1, I1.tok _, ⟨_, rfl⟩, q⟩
end
end L2

/-! part Fl -/
set_option Elab.async false
set_option linter.all false
set_option maxRecDepth 100000
namespace L2
open PySem PySem.Spec PyProof.Rows
section
variable {X : Cx}
def XIs (X : Cx) (Es : St → XK) (e : Value) (s : Shared) : Prop := ∃ a C d σ H, e = .ref a ∧ Inv X [] σ H s ∧ FlyIn X.s_0.heap s.heap H X.env.locals a C d ∧ Es σ C d H
theorem XI.leave {E : XK} {e : Value} {s' : Shared} {E' : Value → Shared → Prop} (O : Own X) (x : XI X E e s') : wpAny (model X.prog X.w) X.A (leaving X.env e) (fun _ s'' => CXE X.prog X.w X.outer X.H_0 X.s_0 E e s'') E' s' := by
  obtain ⟨a, C, d, σ, H', rfl, I, F, q⟩ := x
  unfold leaving
  refine wpAny_bind (I.note O F fun h1 I1 F1 => ?_)
  refine I1.flight O.pn F1 fun h2 I2 F2 => ?_
  have un := I2.base
  rw [O.ex] at un
  exact ⟨a, C, d, H', rfl, I2.os, I2.bare, un, I2.hok, F2.mono (fun f z => z) (fun z => z.elim), q⟩
end
/-! ### a lambda without parameters -/
def cxLam (P : Program) (w : World) (K : PySem.W.Frag) (mg : Str → Option Value) (base : Heap) (N : List Str) (qual : Str) (scope : Scope) (cl : List (Str × Addr)) (f : Addr) (cd : Value) (A : Around) (outer : List Env) (s : Shared) (H : Hp) : Cx where
  prog := P
  w := w
  K := K
  mg := mg
  base := base
  A := A.deeper (PySem.W.envX qual scope s.heap.objs.size f cd cl)
  N := N
  s_0 := s
  H_0 := H
  env := PySem.W.envX qual scope s.heap.objs.size f cd cl
  outer := outer
  stack := PySem.W.envX qual scope s.heap.objs.size f cd cl :: outer
  ex := []
  calm := true
  fn := fun _ => false
  pn := []
  xe := fun _ _ => False
/-- the cells that a lambda reads: its names and their values -/
structure Clo (cl : List (Str × Addr)) (scope : Scope) (N : List Str) (σ : St) (H : Hp) (h : Heap) : Prop where
  kind : scope.kind = .function
  co : scope.isCoroutine = false
  gen : scope.isGenerator = false
  nocell : ∀ x ∈ scope.names, x.2 ≠ .cell
  cell : ∀ x c, cl.lookup x = some c → ∃ v, h.IsCell c v
  free : ∀ x c, cl.lookup x = some c → H c = none
  inj : ∀ x y c, cl.lookup x = some c → cl.lookup y = some c → x = y
  has : ∀ x, scope.names.lookup x = some .free → ∃ c, cl.lookup x = some c
  val : ∀ (i : Nat) (x : Str) (v : V), N[i]? = some x → σ[i]? = some (some v) → scope.names.lookup x = some .free ∧ ∃ c u, cl.lookup x = some c ∧ RelV v u ∧ h.IsCell c (some u)
  len : σ.length = N.length
section
variable {P : Program} {w : World} {K : PySem.W.Frag} {mg : Str → Option Value} {base : Heap} {N : List Str} {nm qual : Str} {params : Arguments} {body : Expr} {scope : Scope} {cl : List (Str × Addr)} {f c' : Addr} {cd pm ctv : Value} {A : Around} {outer : List Env} {s : Shared} {H : Hp} {σ : St}
theorem lam_start {h₁ : Heap} {tk : Nat} {m : Str → Option Value} (hd : A.handled = none) (e0 : Env0 P w K mg base A outer s H) (C : Clo cl scope N σ H s.heap) (hns : h₁.Ns s.heap.objs.size m) (hk : ∀ b o, s.heap.get? b = some o → h₁.get? b = some o) :
    Inv (cxLam P w K mg base N qual scope cl f cd A outer s H) [] σ H { s with heap := h₁, toks := tk } := by
  have noA : ∀ b : Addr, b ∉ (cxLam P w K mg base N qual scope cl f cd A outer s H).ex := fun b z => absurd (show b ∈ ([] : List Addr) from z) (by simp)
  have ck : ∀ {c v}, s.heap.IsCell c v → h₁.IsCell c v := fun {c v} ⟨o, ho, r⟩ => ⟨o, hk _ _ ho, r⟩
  refine ⟨⟨e0.mod, C.kind, rfl, rfl, Nat.le_refl _, C.inj, fun y hy => ?_, fun y c z _ => (by cases z), fun _ => hd, Around.frames_deeper e0.frames, .inr ⟨rfl, rfl⟩, fun b z => absurd z (noA b), e0.bs, e0.bsz, fun b _ _ => noA b, fun b z => absurd z (noA b), e0.funs, e0.frf⟩,
    rfl, e0.bare, Un.kept hk, ⟨m, hns, fun i y v h1 h2 h3 => ?_⟩, fun y c h => ?_, e0.hok.fresh (Nat.le_refl _), fun y c h => C.free y c h, fun p hp => absurd (show p ∈ ([] : List (Addr × Obj)) from hp) (by simp), e0.hok.kept hk, C.len⟩
  · rcases hy with hy | hy
    · exact absurd rfl (C.nocell _ (PySem.mem_of_lookup hy))
    · exact C.has y hy
  · obtain ⟨k, c, u, e1, r, z⟩ := C.val i y v h1 h2
    exact ⟨u, r, .inr ⟨.inr k, c, e1, ck z⟩⟩
  · obtain ⟨v, z⟩ := C.cell y c h
    exact ⟨v, ck z⟩
theorem own_lam : Own (cxLam P w K mg base N qual scope cl f cd A outer s H) := ⟨rfl, rfl, rfl, rfl⟩
abbrev cxL (P : Program) (w : World) (K : PySem.W.Frag) (mg : Str → Option Value) (base : Heap) (N : List Str) (qual : Str) (scope : Scope) (cl : List (Str × Addr)) (f : Addr) (cd : Value) (A : Around) (outer : List Env) (s : Shared) (H : Hp) (E : XK) : Cx :=
  (cxLam P w K mg base N qual scope cl f cd A outer s H).wish (XI (cxLam P w K mg base N qual scope cl f cd A outer s H) E)
theorem lam_run {k : Nat} {t : TE} {Q : VK} {E : XK} (hr : Room (k + 1) A) (e0 : Env0 P w K mg base A outer s H) (ho : s.heap.get? f = some (PySem.W.kla_obj nm qual params body scope cl pm c' ctv)) (hcd : s.heap.CodeRec (.ref c') qual)
    (hb : bindArgs (PySem.W.kla_fn nm qual params body scope cl pm (.ref c') ctv) ⟨[], []⟩ = pure []) (C : Clo cl scope N σ H s.heap)
    (ht : PE (cxL P w K mg base N qual scope cl f (.ref c') A outer s H E) body t) (hq : t σ H Q) : codeAny (model P w) A (.call (.ref f) ⟨[], []⟩) (CR (CXE P w) outer P w H s Q E) s := by
  have lim : s.heap.NoLimit := e0.mod.nolimit.keeps fun b o e => (e0.bs b o e).1
  refine PySem.W.kla_callFunE hr.depth ho rfl C.co C.gen rfl hcd ?_
  rw [hb]
  refine wpAny_pure (wpAny_newFunctionEnv C.nocell (fun _ z => nomatch z) (fun h₁ hns hsb => ⟨lim.fresh _ hsb, ?_⟩) C.kind)
  have hk₁ : ∀ b o, s.heap.get? b = some o → h₁.get? b = some o := fun b o e => hsb.extBut b o (Nat.ne_of_lt (Heap.lt_size e)) (Heap.get?_push_of_some _ e)
  have I := lam_start (qual := qual) (f := f) (cd := .ref c') (tk := s.toks + ([] : List (Str × Value)).length) hr.hd e0 C hns hk₁
  refine PySem.W.kla_codeExpr (wpAny_mono (ht [] _ σ H Q (I.wish _) hq) (fun u s' ⟨v, H', J, r, q⟩ => ?_) fun e s' x => XI.leave own_lam x)
  exact ⟨v, H', J.os, J.bare, J.base, J.hok, r, q⟩
end
/-! ### a function that was handed in is asked -/
def AskAt (P : Program) (w : World) (K : PySem.W.Frag) (mg : Str → Option Value) (base : Heap) (k : Nat) (outer : List Env) (s : Shared) (H : Hp) (g : Addr) (Qa : VK) (Ea : XK) : Prop :=
  (∃ oc od fd sl, s.heap.get? g = some ⟨oc, od, .func fd, sl⟩) ∧ H g = none ∧ g ∉ frs outer ∧
  ∀ A' outer' s', Room k A' → Env0 P w K mg base A' outer' s' H → (∀ b o, s.heap.get? b = some o → H b = none → b ∉ frs outer → s'.heap.get? b = some o) → codeAny (model P w) A' (.call (.ref g) ⟨[], []⟩) (CR (CXE P w) outer' P w H s' Qa Ea) s'
section
variable {X : Cx} {k i : Nat} {g : Addr} {Qa : VK} {Ea : XK} {Es : St → XK} {x : Str} {p pos : Pos}
def tAsk (X : Cx) (i : Nat) (g : Addr) (Qa : VK) (Ea : XK) (Es : St → XK) : TE := fun σ H Q => σ[i]? = some (some (.ref g)) ∧ H = X.H_0 ∧ (∀ v H', Qa v H' → Q v H') ∧ ∀ C d H', Ea C d H' → Es σ C d H'
theorem pe_ask (O : Own X) (hA : AskAt X.prog X.w X.K X.mg X.base k X.outer X.s_0 X.H_0 g Qa Ea) (hr : Room k X.A) (hN : X.N[i]? = some x) (hv : Vis X.env.scope x) (hd : (x == ("__debug__" : Str)) = false := by decide) (hcd : (x == ("__classdict__" : Str)) = false := by decide) :
    PE (X.wish (XIs X Es)) (.Call (.Name x p) [] [] pos) (tAsk X i g Qa Ea Es) := by
  intro pins s σ H Q I h
  obtain ⟨e1, rfl, h1, h2⟩ := h
  obtain ⟨⟨oc, od, fd, sl, ho⟩, hg, hn, run⟩ := hA
  refine wpAny_Call_Name_kw (thn (pe_var (X := X.wish (XIs X Es)) (pos := p) hN hv hd hcd pins s σ X.H_0 (fun v H' => v = .ref g ∧ H' = X.H_0) I ⟨_, e1, rfl, rfl⟩) fun u s1 ⟨v, H1, I1, r, ev, eH⟩ => ?_)
  subst ev eH
  obtain rfl : u = Value.ref g := r
  have kept : ∀ b o, X.s_0.heap.get? b = some o → X.H_0 b = none → b ∉ frs X.outer → s1.heap.get? b = some o := fun b o q n nf => I1.base.keep b o q n nf (by rw [show (X.wish (XIs X Es)).ex = X.ex from rfl, O.ex]; simp)
  refine PySem.W.callWith_F0 ⟨oc, od, fd, sl, kept g _ ho hg hn⟩ ?_
  refine wpAny_call (codeAny_mono (run X.A X.stack s1 hr I1.env0 kept) fun r s' hq => ?_)
  cases r with
  | error e =>
    obtain ⟨a, C, d, H', he, os, bare, un, hok, F, q⟩ := hq
    have I2 := I1.unwish
    have I3 : Inv X pins σ H' s' := I2.call' (ch := []) os un hok bare (fun b z => nomatch z)
    exact ⟨a, C, d, σ, H', he, I3.pins_of (fun _ z => nomatch z), (F.older fun b o e => I2.base.there b o e (by rw [O.ex]; simp)).mono (fun f z => .inl z) (fun z => z.elim), h2 C d H' q⟩
  | ok fl =>
    cases fl with
    | ret u => exact I1.after (by obtain ⟨v, H', z1, z2, z3, z4, z5, z6⟩ := hq; exact ⟨v, H', z1, z2, z3, z4, z5, h1 _ _ z6⟩)
    | next => exact False.elim hq
    | brk => exact False.elim hq
    | cont => exact False.elim hq
end
end L2

/-! part Ft -/
set_option Elab.async false
set_option linter.all false
set_option maxRecDepth 100000
namespace L2
open PySem PySem.Spec PyProof.Rows
/-- within an except suite: the exception at a is handled -/
abbrev Cx.hnd (X : Cx) (a : Addr) (oe : Obj) : Cx := { X with A := X.A.mark (some (.ref a)), calm := false, pn := [(a, oe)], xe := fun _ _ => False }
section
variable {X : Cx} {σ : St} {H : Hp} {s : Shared}
theorem Inv.hnd {a : Addr} {oe : Obj} {vs : Array Value} (O : Own X) (I : Inv X [] σ H s) (he : s.heap.get? a = some oe) (hd : oe.data = .fields vs) (hn : H a = none) : Inv (X.hnd a oe) [] σ H s := by
  have ok := I.ok
  refine ⟨⟨ok.mod, ok.kind, ok.glob, ok.blt, ok.above, ok.inj, ok.has, ok.cab, fun z => (by cases z), ok.frames, ok.stk, ok.exf, ok.bs, ok.bsz, ok.noex, ok.exfs, ok.funs, ok.frf⟩, I.os, I.bare, I.base, I.loc, I.cell, I.free, I.freeC, fun p hp => ?_, I.hok, I.len⟩
  have e : p = (a, oe) := by simpa using hp
  subst e
  refine ⟨he, hn, fun z => ?_, fun z => ?_, fun v z => by rw [hd] at z; cases z⟩
  · have z : a = X.env.locals := z
    obtain ⟨m, ⟨o', es, ep, ho', hd', _⟩, _⟩ := I.loc
    rw [← z, he] at ho'; cases ho'; rw [hd] at hd'; cases hd'
  · obtain ⟨_, o, ho, hnf⟩ := I.funs.mem (show a ∈ X.outer.filterMap (·.frame) from z)
    rw [he] at ho; cases ho; exact hnf vs hd
theorem Inv.unhnd {a : Addr} {oe : Obj} (ok : X.Ok) (hpn : X.pn = []) (I : Inv (X.hnd a oe) [] σ H s) : Inv X [] σ H s :=
  ⟨ok, I.os, I.bare, I.base, I.loc, I.cell, I.free, I.freeC, fun p hp => by rw [hpn] at hp; simp at hp, I.hok, I.len⟩
end
/-- a statement, a block, where nothing is pinned -/
def PS0 (X : Cx) (st : Stmt) (t : TS) : Prop := ∀ (s : Shared) (σ : St) (H : Hp) (D : Ends), Inv X [] σ H s → t D σ H → wpAny (model X.prog X.w) X.A (exec st X.env) (SP X [] D) X.xe s
def PSs0 (X : Cx) (st : List Stmt) (t : TS) : Prop := ∀ (s : Shared) (σ : St) (H : Hp) (D : Ends), Inv X [] σ H s → t D σ H → wpAny (model X.prog X.w) X.A (execs st X.env) (SP X [] D) X.xe s
section
variable {X : Cx} {st : Stmt} {rest : List Stmt} {t u : TS}
theorem PS.p0 (h : PS X st t) : PS0 X st t := h []
theorem PSs.p0 (h : PSs X rest t) : PSs0 X rest t := h []
theorem pss0_cons (h1 : PS0 X st t) (h2 : PSs0 X rest u) : PSs0 X (st :: rest) (tSeq t u) := by
  intro s σ H D I h
  refine wpAny_execs_cons (thn (h1 s σ H { D with nx := u D } I h) fun f s1 q => ?_)
  cases f with
  | next =>
    obtain ⟨σ', H', I', q⟩ := q
    exact h2 s1 σ' H' D I' q
  | ret v => exact q
  | brk => exact q
  | cont => exact q
end
theorem looks_type {M : Model} {h : Heap} {a : Addr} {o : Obj} (e : h.get? a = some o) : PySem.W.Looks M h (typeOf (.ref a)) o.cls := (PySem.W.Looks.ld e).andThen .now
section
variable {X : Cx} {E : Value → Shared → Prop} {Q : Bool → Shared → Prop} {pins : List (Addr × Obj)} {σ : St} {H : Hp} {s : Shared}
/-- (A, B, C) as what is caught -/
theorem match3 {a : Addr} {oe : Obj} {x1 x2 x3 : Str} {c1 c2 c3 : Value} {p1 p2 p3 tpos : Pos} {kk : Nat} (I : Inv X pins σ H s) (he : s.heap.get? a = some oe) (hx : PySem.W.exmAny X.K oe.cls [c1, c2, c3] = some true)
    (g1 : Gl X x1) (m1 : X.mg x1 = some c1) (g2 : Gl X x2) (m2 : X.mg x2 = some c2) (g3 : Gl X x3) (m3 : X.mg x3 = some c3)
    (d1 : (x1 == ("__debug__" : Str)) = false) (d2 : (x2 == ("__debug__" : Str)) = false) (d3 : (x3 == ("__debug__" : Str)) = false)
    (q : ∀ h', (∀ b o, s.heap.get? b = some o → h'.get? b = some o) → Q true { s with heap := h' }) :
    wpAny (model X.prog X.w) X.A (eval (.Tuple [.Name x1 p1, .Name x2 p2, .Name x3 p3] kk tpos) X.env) (fun c s₁ => wpAny (model X.prog X.w) X.A (excMatches (.ref a) c) Q E s₁) E s := by
  refine wpAny_Tuple ?_
  refine wpAny_items_cons (ld_glob I g1 m1 ?_ d1)
  refine wpAny_items_cons (ld_glob I g2 m2 ?_ d2)
  refine wpAny_items_cons (ld_glob I g3 m3 ?_ d3)
  refine wpAny_items_nil ⟨by size_fits, ?_⟩
  have kp : ∀ q o, s.heap.get? q = some o → (s.heap.push { cls := .type "tuple", data := .seq [c1, c2, c3].toArray }).get? q = some o := fun _ _ z => Heap.get?_push_of_some _ z
  exact (PySem.W.exm_tup3 (I.kIn.keeps kp) ((looks_type he).keeps kp) (Heap.get?_push_size s.heap rfl) hx).here (q _ kp)
end
section
variable {X : Cx} {Es : St → XK} {body : List Stmt} {tb : TS} {n x1 x2 x3 : Str} {i : Nat} {c1 c2 c3 : Value} {p1 p2 p3 tpos hpos pos : Pos} {kk : Nat} {b₀ : Stmt} {suite : List Stmt}
def tTry (X : Cx) (Es : St → XK) (i : Nat) (suite : List Stmt) (tb : TS) : TS := fun D σ H => tb D σ H ∧ ∀ a oe C d vs σ' H', oe.cls = C → oe.dict = d → oe.data = .fields vs → vs[2]? = some .none → H' a = none → Es σ' C d H' →
  ∃ t, PSs (X.hnd a oe) suite t ∧ t { nx := fun σ2 H2 => D.nx (σ2.set i none) H2, rt := fun _ _ => False } (σ'.set i (some (.ref a))) H'
theorem ps_try (O : Own X) (hb : PSs0 (X.wish (XIs X Es)) body tb) (hN : X.N.Nodup) (hi : X.N[i]? = some n) (hl : X.env.scope.names.lookup n = some .local)
    (g1 : Gl X x1) (m1 : X.mg x1 = some c1) (g2 : Gl X x2) (m2 : X.mg x2 = some c2) (g3 : Gl X x3) (m3 : X.mg x3 = some c3) (hx : ∀ σ C d H, Es σ C d H → PySem.W.exmAny X.K C [c1, c2, c3] = some true)
    (d1 : (x1 == ("__debug__" : Str)) = false := by decide) (d2 : (x2 == ("__debug__" : Str)) = false := by decide) (d3 : (x3 == ("__debug__" : Str)) = false := by decide) :
    PS0 X (.Try body [.ExceptHandler (some (.Tuple [.Name x1 p1, .Name x2 p2, .Name x3 p3] kk tpos)) (some n) (b₀ :: suite) hpos] [] [] pos) (tTry X Es i (b₀ :: suite) tb) := by
  intro s σ H D I h
  obtain ⟨h1, h2⟩ := h
  refine wpAny_Try_except (wpAny_mono (hb s σ H D (I.wish _) h1) (fun f s1 q => ?_) fun e s1 x => ?_)
  · have q := q.unwish
    cases f with
    | next => exact wpAny_execs_nil q
    | ret v => exact q
    | brk => exact q
    | cont => exact q
  · obtain ⟨a, C, d, σ1, H1, rfl, I1, F1, q1⟩ := x
    refine I1.note O F1 fun hp2 I2 F2 => ?_
    refine I2.flight O.pn F2 fun hp3 I3 F3 => ?_
    obtain ⟨oe3, vs3, z1, z2, _, z3, _, _, z6, _⟩ := id F3.ex
    have J3 := I3.hnd O z1 z3 z6
    refine wpAny_handleBy_cons (codeAny_handlers_test ?_) (by intro q; cases q)
    refine match3 (X := X.hnd a oe3) J3 z1 (by rw [z2]; exact hx _ _ _ _ q1) g1 m1 g2 m2 g3 m3 d1 d2 d3 fun hp4 k4 => ?_
    have I4 : Inv X [] σ1 H1 { s1 with heap := hp4 } := I3.kept (t' := s1.toks) k4
    have F4 : Fly X.s_0.heap hp4 H1 (fun f => f = .none) False a C d := by
      obtain ⟨oe, vs, a1, a2, a2d, a3, a4, a5, a6, a7⟩ := F3.ex
      refine ⟨oe, vs, k4 _ _ a1, a2, a2d, a3, a4, a5, a6, ?_⟩
      rcases a7 with ⟨b, c⟩ | ⟨T, oT, ts, f, b1, b2, b3, b4, b5, b6, b7, b8⟩
      · exact .inl ⟨b, c⟩
      · exact .inr ⟨T, oT, ts, f, b1, b2, b3, b4, k4 _ _ b5, b6, b7, b8⟩
    show codeAny _ _ _ _ _
    refine codeAny_handlers_suite_as ?_
    refine I4.flight O.pn F4 fun hp5 I5 F5 => ?_
    obtain ⟨oe, vs, y1, y2, y2d, y3, y4, _, y6, _⟩ := id F5.ex
    obtain ⟨t, ht, hq⟩ := h2 a oe C d vs σ1 H1 y2 y2d y3 y4 y6 q1
    have J5 := I5.hnd O y1 y3 y6
    refine store_ok (X := X.hnd a oe) J5 hN hi (.inl hl) (show RelV (.ref a) (.ref a) from rfl) (fun s6 J6 => ?_) (.inr hl)
    refine wpAny_mono (ht [] s6 _ H1 _ J6 hq) (fun f s7 q7 => ?_) fun _ _ z => z.elim
    cases f with
    | next =>
      obtain ⟨σ7, H7, J7, q7⟩ := q7
      have I7 := J7.unhnd I5.ok O.pn
      obtain ⟨m, hn, hlk⟩ := id I7.loc
      have hcls : (X.env.scope.kind == .class || (X.env.scope.kind == .module && X.env.locals != X.env.globals)) = false := by rw [I7.ok.kind]; rfl
      refine wpAny_nameGoes_keeps hl hn hcls fun hp8 v hn8 hs8 => ?_
      obtain ⟨oL, _, _, hoL, _⟩ := id hn
      have neL : ∀ b o, X.s_0.heap.get? b = some o → b ≠ X.env.locals := fun b o e => Nat.ne_of_lt (Nat.lt_of_lt_of_le (Heap.lt_size e) I7.ok.above)
      refine ⟨_, H7, ⟨I7.ok, I7.os, I7.bare, ⟨fun b o e n hb hx => ?_, fun b o e n hb hx => ?_, I7.base.free, fun b o e hx => ?_, I7.base.tups, I7.base.frzs, I7.base.tbls⟩, ⟨_, hn8, fun j y w' e1 e2 e3 => ?_⟩, fun y c e => ?_, I7.free, I7.freeC, fun p hp => ?_, ?_, by simpa using I7.len⟩, q7⟩
      · exact (hs8.2 b (neL b o e)).trans (I7.base.keep b o e n hb hx)
      · obtain ⟨sl, e1⟩ := I7.base.slot b o e n hb hx
        exact ⟨sl, (hs8.2 b (neL b o e)).trans e1⟩
      · obtain ⟨o', e1⟩ := I7.base.there b o e hx
        exact ⟨o', (hs8.2 b (neL b o e)).trans e1⟩
      · have hj : j ≠ i := fun z => by
          subst z
          by_cases hlt : j < σ7.length
          · rw [List.getElem?_set_self hlt] at e2; cases e2
          · rw [List.getElem?_eq_none (by simpa using hlt)] at e2; cases e2
        rw [List.getElem?_set_ne (Ne.symm hj)] at e2
        obtain ⟨u', r', q⟩ := hlk j y w' e1 e2 e3
        refine ⟨u', r', ?_⟩
        rcases q with ⟨k, e⟩ | ⟨k, c, e, z⟩
        · refine .inl ⟨k, ?_⟩
          have : y ≠ n := fun e => hj (nodup_ix hN e1 (e ▸ hi))
          simp [this, e]
        · exact .inr ⟨k, c, e, z.sameBut hs8 (I7.cne y c e)⟩
      · obtain ⟨w', z⟩ := I7.cell y c e
        exact ⟨w', z.sameBut hs8 (I7.cne y c e)⟩
      · rw [O.pn] at hp; simp at hp
      · intro b ob e
        refine (I7.hok b ob e).stay (fun c w' hc q => (hs8.2 c ?_).trans q) (fun _ q => q) fun _ _ q => q
        intro z
        rcases hc with hc | hc
        · rw [← hc, z, I7.free] at e; cases e
        · rw [z, I7.free] at hc; cases hc
    | ret v => obtain ⟨_, _, _, _, _, q⟩ := q7; exact q.elim
    | brk => obtain ⟨_, _, _, q⟩ := q7; exact q.elim
    | cont => obtain ⟨_, _, _, q⟩ := q7; exact q.elim
end
end L2

/-! part Fh -/
set_option Elab.async false
set_option linter.all false
set_option maxRecDepth 100000
namespace L2
open PySem PySem.Spec PyProof.Rows
theorem entry_unchain : entryFor table "proto.unchain" = some Builtin.«proto.unchain» := entryFor_of_fast (by kernel_rfl)
/-- the handled exception: none, or one without a context of its own -/
def HdOk (A : Around) (h : Heap) (e : Addr) : Prop := A.handled = none ∨ ∃ a oa va, A.handled = some (.ref a) ∧ h.get? a = some oa ∧ oa.data = .fields va ∧ va[2]? = some .none ∧ a ≠ e
section
variable {prog : Program} {w : World} {A : Around} {E : Value → Shared → Prop} {s : Shared}
theorem unchain_none {a : Addr} {oa : Obj} {va : Array Value} {e : Value} {Q : Value → Shared → Prop} (ha : s.heap.get? a = some oa) (hda : oa.data = .fields va) (h2 : va[2]? = some .none) (h : Q .none s) :
    wpAny (model prog w) A (runValue (.builtin "proto.unchain" ⟨[e, .ref a, .ref a, .bool false], []⟩)) Q E s := by
  refine wpAny_runValue (codeAny_builtin entry_unchain ?_)
  show wpAny _ _ (do let context ← field (.ref a) 2; _) _ _ s
  refine wpAny_bind (wpAny_field ha hda h2 ?_)
  exact wpAny_pure h
theorem raiseNew_hd {α : Type} {e : Addr} {oe : Obj} {ve : Array Value} {Q : α → Shared → Prop} (hh : HdOk A s.heap e) (he : s.heap.get? e = some oe) (hde : oe.data = .fields ve) (hsz : 2 < ve.size)
    (h : ∀ h', Heap.SameBut e s.heap h' → (∃ o', h'.get? e = some o' ∧ o'.cls = oe.cls) → E (.ref e) { s with heap := h' }) : wpAny (model prog w) A (raiseNew (.ref e) : Sem α) Q E s := by
  unfold raiseNew
  refine wpAny_bind (wpAny_handled ?_)
  rcases hh with hh | ⟨a, oa, va, hh, ha, hda, h2, hne⟩
  · rw [hh]
    exact wpAny_bind (wpAny_pure (wpAny_throw (h s.heap (Heap.SameBut.refl ..) ⟨oe, he, rfl⟩)))
  · rw [hh]
    have hb : ((Value.ref a != Value.ref e) = true) := by simp [hne]
    show wpAny _ _ (if (Value.ref a != Value.ref e) = true then do
      let _ ← holding [Value.ref e] (runValue (.builtin "proto.unchain" ⟨[.ref e, .ref a, .ref a, .bool false], []⟩))
      let _ ← updateField e 2 (.ref a)
      throw (.ref e) else throw (.ref e)) _ _ s
    rw [if_pos hb]
    refine wpAny_bind (wpAny_holding (unchain_none ha hda h2 (wpAny_bind ?_)))
    unfold updateField
    refine wpAny_bind (wpAny_load he ?_)
    rw [hde]
    show wpAny _ _ (if 2 < ve.size then _ else _) _ _ s
    rw [if_pos hsz]
    refine wpAny_update he (wpAny_throw (h _ (Heap.SameBut.update ..) ⟨_, Heap.get?_update_self _ he (Obj.isFreed_of_fields (Obj.data_mapFields hde _)), Obj.cls_mapFields _ _⟩))
/-- .. and it is not the object at it -/
def Hd0 (A : Around) (h : Heap) (it : Addr) : Prop := A.handled = none ∨ ∃ a oa va, A.handled = some (.ref a) ∧ h.get? a = some oa ∧ oa.data = .fields va ∧ va[2]? = some .none ∧ a ≠ it
theorem Hd0.keep {h h' : Heap} {it it' : Addr} (x : Hd0 A h it) (k : ∀ b o, b ≠ it → h.get? b = some o → h'.get? b = some o) (n : ∀ o, h.get? it' = some o → it' = it) : Hd0 A h' it' := by
  rcases x with x | ⟨a, oa, va, x1, x2, x3, x4, x5⟩
  · exact .inl x
  · refine .inr ⟨a, oa, va, x1, k _ _ x5 x2, x3, x4, fun z => ?_⟩
    subst z
    exact x5 (n _ x2)
theorem Hd0.hdOk {h h' : Heap} {it e : Addr} (x : Hd0 A h it) (k : ∀ b o, b ≠ it → h.get? b = some o → h'.get? b = some o) (n : h.get? e = none) : HdOk A h' e := by
  rcases x with x | ⟨a, oa, va, x1, x2, x3, x4, x5⟩
  · exact .inl x
  · refine .inr ⟨a, oa, va, x1, k _ _ x5 x2, x3, x4, fun z => ?_⟩
    subst z
    rw [n] at x2; cases x2
theorem raise_stop {α : Type} {h0 h1 : Heap} {it : Addr} {o1 o2 : Obj} {ve : Array Value} {Q : α → Shared → Prop} (hh : Hd0 A h0 it) (ext : Heap.ExtBut it h0 h1) (sz : h0.objs.size ≤ h1.objs.size) (hd2 : o2.data = .fields ve) (hsz : 2 < ve.size)
    (h : ∀ h', Heap.ExtBut it h0 h' → (∃ o', h'.get? (h1.push o1).objs.size = some o' ∧ o'.cls = o2.cls) → E (.ref (h1.push o1).objs.size) { s with heap := h' }) :
    wpAny (model prog w) A (raiseNew (.ref (h1.push o1).objs.size) : Sem α) Q E { s with heap := (h1.push o1).push o2 } := by
  have ext' : Heap.ExtBut it h0 ((h1.push o1).push o2) := (ext.push _).push _
  have nw : h0.objs.size ≤ (h1.push o1).objs.size := by rw [Heap.size_push]; omega
  refine raiseNew_hd (s := { s with heap := (h1.push o1).push o2 }) (hh.hdOk ext' (Heap.get?_none_of_le nw)) (Heap.get?_push_size _ (Obj.isFreed_of_fields hd2)) hd2 hsz fun h' sb ⟨o', e1, e2⟩ => h h' (fun b o hb e => ?_) ⟨o', e1, e2⟩
  have lt := Heap.lt_size e
  exact (sb.2 b (Nat.ne_of_lt (Nat.lt_of_lt_of_le lt nw))).trans (ext' b o hb e)
theorem list_endH {it l : Addr} {i : Nat} {items} {Q : Option Value → Shared → Prop} (hh : Hd0 A s.heap it)
    (hit : s.heap.IsListIter it l i) (hl : s.heap.IsList l items) (hx : items[i]? = none)
    (hQ : ∀ h', Heap.ExtBut it s.heap h' → Q none { s with heap := h' }) : wpAny (model prog w) A (pyNext (.ref it)) Q E s := by
  obtain ⟨o, ho, hc, hd⟩ := id hit
  obtain ⟨ol, hol, _, nl, hdl⟩ := hl
  unfold pyNext
  refine wpAny_bind (wpAny_attempt (wpAny_callSpecial?_slot (name := Str.ofString "__next__") hit.typeIs slot_listiter_next
    (wpAny_call_entry slot_listiter_next hit.typeIs entry_listiter_next ?_ (args_listiter_next _))))
  show wpAny _ _ (field (.ref it) 0 >>= _) _ _ s
  refine wpAny_bind (wpAny_field ho hd (x := .ref l) rfl ?_)
  show wpAny _ _ (if (Value.ref l == Value.none) = true then _ else _) _ _ s
  rw [if_neg (show ¬ ((Value.ref l == Value.none) = true) from Bool.false_ne_true)]
  show wpAny _ _ (field (.ref it) 1 >>= _) _ _ s
  refine wpAny_bind (wpAny_field ho hd (x := .int i 0) rfl ?_)
  show wpAny _ _ (seqItems? (.ref l) >>= _) _ _ s
  refine wpAny_bind (wpAny_seqItems hol hdl ?_)
  simp only [Int.toNat_natCast, hx]
  refine wpAny_bind (wpAny_rule (wpAny_bind (wpAny_setField ho hd (by simp) ?_)))
  show wpAny _ _ (newExc (.type "StopIteration") [] >>= _) _ _ _
  refine wpAny_bind ?_
  simp only [newExc, newTuple]
  refine wpAny_bind (wpAny_newObj_type ?_ (by size_fits))
  refine wpAny_bind (m := firstArgMember _ _) (wpAny_of_eq (a := Value.none) (by first | rfl | (simp only [firstArgMember]; rfl)) ?_)
  refine wpAny_newObj_type ?_ (by size_fits)
  refine raise_stop (s := s) (h0 := s.heap) hh (Heap.SameBut.update ..).extBut (Nat.le_of_eq (Heap.size_after_update ..).symm) rfl (by simp; omega) fun h' ext ⟨o', e1, e2⟩ => ?_
  exact wpAny_bind (wpAny_isInstance (T := "StopIteration") (b := true) ⟨_, e1, e2⟩ isSubtype_stop (wpAny_pure (hQ _ ext)))
theorem tuple_endH {it t : Addr} {i : Nat} {items} {Q : Option Value → Shared → Prop} (hh : Hd0 A s.heap it)
    (hit : IsTupIter s.heap it t i) (ht : IsTup s.heap t items) (hx : items[i]? = none)
    (hQ : ∀ h', Heap.ExtBut it s.heap h' → Q none { s with heap := h' }) : wpAny (model prog w) A (pyNext (.ref it)) Q E s := by
  obtain ⟨o, ho, hc, hd⟩ := id hit
  obtain ⟨ol, hol, _, nl, hdl⟩ := ht
  unfold pyNext
  refine wpAny_bind (wpAny_attempt (wpAny_callSpecial?_slot (name := Str.ofString "__next__") hit.typeIs slot_tupleiter_next
    (wpAny_call_entry slot_tupleiter_next hit.typeIs entry_tupleiter_next ?_ (args_tupleiter_next _))))
  show wpAny _ _ (field (.ref it) 0 >>= _) _ _ s
  refine wpAny_bind (wpAny_field ho hd (x := .ref t) rfl ?_)
  show wpAny _ _ (if (Value.ref t == Value.none) = true then _ else _) _ _ s
  rw [if_neg (show ¬ ((Value.ref t == Value.none) = true) from Bool.false_ne_true)]
  show wpAny _ _ (field (.ref it) 1 >>= _) _ _ s
  refine wpAny_bind (wpAny_field ho hd (x := .int i 0) rfl ?_)
  show wpAny _ _ (seqItems? (.ref t) >>= _) _ _ s
  refine wpAny_bind (wpAny_seqItems hol hdl ?_)
  simp only [Int.toNat_natCast, hx]
  refine wpAny_bind (wpAny_rule (wpAny_bind (wpAny_setField ho hd (by simp) ?_)))
  show wpAny _ _ (newExc (.type "StopIteration") [] >>= _) _ _ _
  refine wpAny_bind ?_
  simp only [newExc, newTuple]
  refine wpAny_bind (wpAny_newObj_type ?_ (by size_fits))
  refine wpAny_bind (m := firstArgMember _ _) (wpAny_of_eq (a := Value.none) (by first | rfl | (simp only [firstArgMember]; rfl)) ?_)
  refine wpAny_newObj_type ?_ (by size_fits)
  refine raise_stop (s := s) (h0 := s.heap) hh (Heap.SameBut.update ..).extBut (Nat.le_of_eq (Heap.size_after_update ..).symm) rfl (by simp; omega) fun h' ext ⟨o', e1, e2⟩ => ?_
  exact wpAny_bind (wpAny_isInstance (T := "StopIteration") (b := true) ⟨_, e1, e2⟩ isSubtype_stop (wpAny_pure (hQ _ ext)))
theorem unpackH {t : Addr} {items : Array Value} {Q : List Value → Shared → Prop} (hh : Hd0 A s.heap s.heap.objs.size) (ht : IsTup s.heap t items)
    (hQ : ∀ h', Heap.ExtBut s.heap.objs.size s.heap h' → Q items.toList { s with heap := h' }) : wpAny (model prog w) A (unpackItems (.ref t) items.size none) Q E s := by
  have hlt : t ≠ s.heap.objs.size := by obtain ⟨o, ho, _⟩ := ht; exact Nat.ne_of_lt (Heap.lt_size ho)
  unfold unpackItems
  refine wpAny_bind ?_
  · unfold notIterableAtAll
    refine wpAny_bind (wpAny_specialOf ht.typeIs slot_tuple_iter.lookup ?_)
    refine wpAny_pure ?_
    simp only [Bool.false_eq_true, if_false]
    refine wpAny_bind (wpAny_holding (iter_tuple ht ?_))
    refine wpAny_bind (wpAny_holding (draw_tuple hlt items.size 0 _ _ ⟨_, Heap.get?_push_size _ rfl, rfl, rfl⟩ (ht.push _) (by omega) fun h₁ hit₁ hs₁ => ?_))
    have hall : List.take items.size (List.drop 0 items.toList) = items.toList := by
      rw [List.drop_zero]; exact List.take_of_length_le (by simp)
    rw [hall]
    rw [if_neg (by simp)]
    have ht₁ : IsTup h₁ t items := (ht.push _).extBut hs₁.extBut hlt
    refine wpAny_bind (wpAny_holding (tuple_endH (hh.keep (fun b o hb e => hs₁.extBut b o hb (Heap.get?_push_of_some _ e)) fun _ _ => rfl) hit₁ ht₁ (by simp) fun h₂ he₂ => ?_))
    simp only [Option.isSome_none, Bool.false_eq_true, if_false]
    refine wpAny_pure (hQ h₂ fun b o hb e => he₂ b o hb (hs₁.extBut b o hb (Heap.get?_push_of_some _ e)))
theorem asgTupH {env : Env} {elts : List Expr} {x1} {pos : Pos} {t : Addr} {items : Array Value} {Q : Unit → Shared → Prop} (hh : Hd0 A s.heap s.heap.objs.size) (ht : IsTup s.heap t items)
    (hn : (assignEach elts env).length = items.size) (hstar : (assignEach elts env).findIdx? (·.1) = none)
    (h : ∀ h', Heap.ExtBut s.heap.objs.size s.heap h' → wpAny (model prog w) A (assignInOrder ((assignEach elts env).map (·.2)) items.toList) Q E { s with heap := h' }) :
    wpAny (model prog w) A (assign (.Tuple elts x1 pos) env (.ref t)) Q E s := by
  rw [assign_Tuple]
  refine wpAny_bind (wpAny_standAt ?_)
  unfold unpack
  rw [hn, hstar]
  exact wpAny_bind (wpAny_holding (unpackH hh ht h))
end
end L2

/-! part Fk -/
set_option Elab.async false
set_option linter.all false
set_option maxRecDepth 100000
namespace L2
open PySem PySem.W PySem.Spec PySem.Calls PyProof.Rows
section
variable {prog : Program} {w : World} {K : Frag} {A : Around} {E : Value → Shared → Prop} {s : Shared} {x D : Addr} {ox : Obj}
/-- x.__class__ of an exception -/
theorem exc_check {M : Model} {nameV : Value} {Q : Unit → Shared → Prop} (X : K.In s.heap) (I : W.InstAt s.heap x ox D none) (hb : subIn K (.ref D) (.type "BaseException") = some true) (h : Q () s) : wpAny M A (checkBuiltinCall "BaseException.__getattribute__" ⟨[.ref x, nameV], []⟩) Q E s := by
  have hk : builtinKind "BaseException.__getattribute__" = some .slot := by decide +kernel
  have hsplit : splitId "BaseException.__getattribute__" = some ("BaseException", "__getattribute__") := by decide +kernel
  have ha := F.args_bexc_ga (.ref x) nameV
  have L0 := I.type (M := M)
  have L1 : Looks M s.heap (isInstance (.ref x) (.type "BaseException")) true := L0.andThen (looks_subIn X hb)
  simp only [checkBuiltinCall, hk, hsplit]
  refine wpAny_bind (L1.at ?_)
  simp only [Bool.not_true, Bool.false_eq_true, if_false]
  first
    | exact wpAny_of_eq ha h
    | (unfold argsOk at ha; simp only [checkBuiltinCall] at ha; exact wpAny_of_eq ha h)
theorem exc_entry {tk : Tok} {g a : Value} {Q : Fin → Shared → Prop} (X : K.In s.heap) (I : W.InstAt s.heap x ox D none) (hf : findObj K D none "__class__" = some (.bind g a)) (h : wpAny (model prog w) A (call g [a, .ref x, .ref D]) (fun v s' => Q (.done (.ret v)) s') E s) :
    wpAny (model prog w) A (Builtin.«object.__getattribute__» ⟨[.ref x, .str "__class__" tk], []⟩) Q E s := by
  have L0 := I.type (M := model prog w)
  have L1 := looks_find (M := model prog w) X I hf
  unfold Builtin.«object.__getattribute__»
  refine wpAny_bind (wpAny_pure (wpAny_bind (wpAny_pure (wpAny_bind (L0.at (wpAny_bind (L1.at ?_)))))))
  show wpAny _ _ (Builtin.ObjectAttr.bindTo g a (.ref x) (.ref D)) _ _ _
  unfold Builtin.ObjectAttr.bindTo
  show wpAny _ _ (do let v ← holding [a] (call g [a, .ref x, .ref D]); ret v) _ _ _
  exact wpAny_bind (wpAny_holding (wpAny_mono h (fun v s' z => wpAny_pure z) fun _ _ z => z))
theorem exc_cls {Q : Option Value → Shared → Prop} (hga : findIn K (.ref D) "__getattribute__" = some (some (.builtin "BaseException.__getattribute__"))) (hgn : findIn K (.ref D) "__getattr__" = some none) (hb : subIn K (.ref D) (.type "BaseException") = some true) (hdct : hasDictIn K D = true) (ha : findIn K (.ref D) "__class__" = some (some (.builtin "object.__class__")))
    (hn : specialIn K (.builtin "object.__class__") "__get__" = some (some (.builtin "getset_descriptor.__get__"))) (htk : takesIn K (.builtin "object.__class__") = some true) (hm : mroIn K D (.type "object") = some true)
    (X : K.In s.heap) (I : W.InstAt s.heap x ox D none) (h : Q (some (.ref D)) { s with toks := s.toks + 1 }) : wpAny (model prog w) A (getAttr? (.ref x) "__class__") Q E s := by
  have hf : findObj K D none "__class__" = some (.bind (.builtin "getset_descriptor.__get__") (.builtin "object.__class__")) := by
    obtain ⟨cd, hc, _⟩ := any_some hdct
    unfold findObj
    rw [hc, Option.bind_some, ha, Option.bind_some]
    simp [hn, htk]
  obtain ⟨hh, g, d, t, os⟩ := s
  have L0 := I.type (M := model prog w)
  have L1 := looks_findIn (M := model prog w) X hga
  have L2 := looks_findIn (M := model prog w) X hgn
  unfold getAttr? getAttrBy? getAttrBy
  refine wpAny_bind (wpAny_mkText (wpAny_bind (wpAny_attempt (wpAny_holding (wpAny_bind (L0.at (wpAny_bind (L1.at ?_))))))))
  have hx2 : (onTheHeap (Value.ref D) && Value.builtin "BaseException.__getattribute__" == Value.builtin "object.__getattribute__") = false := by
    have e : (Value.builtin "BaseException.__getattribute__" == Value.builtin "object.__getattribute__") = false := by decide +kernel
    rw [e, Bool.and_false]
  show wpAny _ _ (if (onTheHeap (Value.ref D) && Value.builtin "BaseException.__getattribute__" == Value.builtin "object.__getattribute__") = true then _ else _) _ _ _
  rw [hx2, if_neg Bool.false_ne_true]
  unfold getAttrByItsOwn
  refine wpAny_bind (show wpAny _ _ (typeLookup (.ref D) "__getattr__") _ _ _ from L2.at ?_)
  refine wpAny_bind (wpAny_attempt (wpAny_holding ?_))
  show wpAny _ _ (boundAndCalled (.builtin "BaseException.__getattribute__") (.ref x) (.str "__class__" t)) _ _ _
  unfold boundAndCalled
  refine wpAny_bind (wpAny_of_eq (F.attr_ValueError.ga.bind (.ref x)) ?_)
  refine wpAny_call (codeAny_call_builtin F.attr_ValueError.ga.plain F.entry_bexc_ga (exc_check X I hb (exc_entry X I hf ?_)))
  refine wpAny_call (class_get (od := none) X I hm ?_)
  exact handed_on rfl (wpAny_pure h)
/-- what isinstance wants of an exception of an own class -/
theorem kitx_exc (hga : findIn K (.ref D) "__getattribute__" = some (some (.builtin "BaseException.__getattribute__"))) (hgn : findIn K (.ref D) "__getattr__" = some none) (hb : subIn K (.ref D) (.type "BaseException") = some true) (hdct : hasDictIn K D = true) (ha : findIn K (.ref D) "__class__" = some (some (.builtin "object.__class__")))
    (hn : specialIn K (.builtin "object.__class__") "__get__" = some (some (.builtin "getset_descriptor.__get__"))) (htk : takesIn K (.builtin "object.__class__") = some true) (hm : mroIn K D (.type "object") = some true) :
    KitX K (.ref x) (.ref D) (fun h => W.InstAt h x ox D none) where
  ty := fun _ _ _ I => I.type
  it := fun _ _ X _ => by
    obtain ⟨cdD, hcD, _⟩ := any_some hdct
    unfold clsIn at hcD
    split at hcD
    · rename_i c' d' cd' sl' ho
      intro A' Q' E' s' k q
      unfold isType loadHead
      exact wpAny_bind (wpAny_loadPart (k _ _ (X _ _ ho)) (wpAny_pure q))
    · cases hcD
  ne := fun h tp dd its n sl X htp => by
    obtain ⟨cdD, hcD, _⟩ := any_some hdct
    refine Bool.eq_false_iff.mpr fun q => ?_
    have e : D = tp := Value.ref.inj (beq_iff_eq.mp q)
    subst e
    unfold clsIn at hcD
    split at hcD
    · rename_i c' d' cd' sl' ho
      have z := (X _ _ ho).symm.trans htp
      cases z
    · cases hcD
  ca := fun X I k => exc_cls hga hgn hb hdct ha hn htk hm X I k
end
end L2
namespace L2
open PySem PySem.Spec PyProof.Rows
/-- nothing is being handled, or an exception of an own class, without a context, that was there at the entry -/
def Still (X : Cx) : Prop := X.A.handled = none ∨ ∃ a oe vs C, X.A.handled = some (.ref a) ∧ X.s_0.heap.get? a = some oe ∧ oe.cls = .ref C ∧ oe.data = .fields vs ∧ vs[2]? = some .none ∧ X.H_0 a = none ∧ a ∉ X.fs ∧ a ∉ X.ex
section
variable {X : Cx} {pins : List (Addr × Obj)} {σ : St} {H : Hp} {s : Shared}
theorem Still.hd0 {it : Addr} {o : Obj} {n : String} (c : Still X) (I : Inv X pins σ H s) (ho : s.heap.get? it = some o) (hc : o.cls = .type n) : Hd0 X.A s.heap it := by
  rcases c with c | ⟨a, oe, vs, C, c1, c2, c3, c4, c5, c6, c7, c8⟩
  · exact .inl c
  · have e := I.base.keep a oe c2 c6 c7 c8
    refine .inr ⟨a, oe, vs, c1, e, c4, c5, fun z => ?_⟩
    rw [z, ho] at e; cases e; rw [hc] at c3; cases c3
theorem Still.hd1 (c : Still X) (I : Inv X pins σ H s) : Hd0 X.A s.heap s.heap.objs.size := by
  rcases c with c | ⟨a, oe, vs, C, c1, c2, c3, c4, c5, c6, c7, c8⟩
  · exact .inl c
  · have e := I.base.keep a oe c2 c6 c7 c8
    exact .inr ⟨a, oe, vs, c1, e, c4, c5, Nat.ne_of_lt (Heap.lt_size e)⟩
theorem Still.blk {scope : Scope} {ce : Env} {fp : List Addr} (c : Still X) (I : Inv X pins σ H s) (hf : ∀ b ∈ fp, FpOk X pins H b) : Still (X.blk s H scope ce fp) := by
  rcases c with c | ⟨a, oe, vs, C, c1, c2, c3, c4, c5, c6, c7, c8⟩
  · exact .inl c
  · refine .inr ⟨a, oe, vs, C, c1, I.base.keep a oe c2 c6 c7 c8, c3, c4, c5, I.base.free a oe c2 c6 c8, fun z => ?_, fun z => ?_⟩
    · rcases List.mem_cons.mp (I.stkSub a z) with z | z
      · exact absurd (Nat.lt_of_lt_of_le (Heap.lt_size c2) I.ok.above) (by rw [z]; exact Nat.lt_irrefl _)
      · exact c7 z
    · rcases (hf a z).2.2.2.1 with z | z
      · exact c8 z
      · exact absurd (Nat.lt_of_lt_of_le (Heap.lt_size c2) z) (Nat.lt_irrefl _)
end
structure TurnS (P : Program) (w : World) (K : PySem.W.Frag) (tg : Expr) (J : It) (fp : List Addr) (it : Addr) (tn : Nat → Heap → Prop) : Prop where
  mem : it ∈ fp
  obj : ∀ i h, tn i h → ∀ b ∈ fp, ∃ o, h.get? b = some o ∧ ∀ v, o.data ≠ .cell v
  keep : ∀ i h h', tn i h → (∀ b ∈ fp, ∀ o, h.get? b = some o → h'.get? b = some o) → tn i h'
  item : ∀ (X : Cx), X.prog = P → X.w = w → X.K = K → Still X → ∀ (i : Nat) (pins : List (Addr × Obj)) (s : Shared) (σ : St) (H : Hp) (E : Value → Shared → Prop), Inv X pins σ H s → (∀ b ∈ fp, FpOk X pins H b) → tn i s.heap → J.go i H →
    wpAny (model P w) X.A (pyNext (.ref it)) (fun r s1 => ∃ u, r = some u ∧
      wpAny (model P w) X.A (letOwnedTupleGo tg (.ref it) u) (fun _ s2 => ∃ x H', Inv X pins σ H' s2 ∧ RelV x u ∧ J.yld i H x H' ∧ tn (i + 1) s2.heap ∧ ∀ b ∈ fp, H' b = none) E s1) E s
  done : ∀ (X : Cx), X.prog = P → X.w = w → X.K = K → Still X → ∀ (i : Nat) (pins : List (Addr × Obj)) (s : Shared) (σ : St) (H : Hp) (E : Value → Shared → Prop), Inv X pins σ H s → (∀ b ∈ fp, FpOk X pins H b) → tn i s.heap → J.stop i H →
    wpAny (model P w) X.A (pyNext (.ref it)) (fun r s1 => r = none ∧ Inv X pins σ H s1) E s
  self : ∀ (A : Around) (i : Nat) (s : Shared) (Q : Value → Shared → Prop) (E : Value → Shared → Prop), tn i s.heap → Q (.ref it) s → wpAny (model P w) A (pyIter (.ref it)) Q E s
def PIES (X : Cx) (pins : List (Addr × Obj)) (σ : St) (tg : Expr) (R : It → Hp → Prop) (itv : Value) (s2 : Shared) : Prop :=
  ∃ (it : Addr) (fp : List Addr) (tn : Nat → Heap → Prop) (J : It) (H' : Hp), itv = .ref it ∧ Inv X pins σ H' s2 ∧ TurnS X.prog X.w X.K tg J fp it tn ∧ tn 0 s2.heap ∧ (∀ b ∈ fp, FpOk X pins H' b) ∧ R J H'
def PIS (X : Cx) (tg iter : Expr) (wi : TI) : Prop :=
  ∀ (pins : List (Addr × Obj)) (s : Shared) (σ : St) (H : Hp) (R : It → Hp → Prop), Inv X pins σ H s → wi σ H R →
    wpAny (model X.prog X.w) X.A (eval iter X.env) (fun v s1 => wpAny (model X.prog X.w) X.A (pyIter v) (PIES X pins σ tg R) X.xe s1) X.xe s

section
variable {X : Cx} {tg : Expr} {pos : Pos}
theorem turn_listS {P : Program} {w : World} {K : PySem.W.Frag} {tg : Expr} (a it : Addr) : TurnS P w K tg (Itl K a) [it] it (fun i h => h.IsListIter it a i) where
  mem := by simp
  obj := fun i h st b hb => by
    have e : b = it := by simpa using hb
    subst e
    obtain ⟨o, e, c, d⟩ := st
    exact ⟨o, e, fun v z => by rw [d] at z; cases z⟩
  keep := fun i h h' st k => st.at fun o e => k it (by simp) o e
  item := by
    intro X hP hw hK hc i pins s σ H E I hf st hg
    subst hP hw hK
    obtain ⟨xs, x, hq, hx⟩ := hg
    obtain ⟨its, rv, p, hz⟩ := I.list hq
    obtain ⟨u, hu, ru⟩ := rv.get hx
    obtain ⟨f0, f1, f2, f3, f4, f5⟩ := hf it (by simp)
    refine wpAny_pyNext_list_item st p.isList (x := u) (by simpa using hu) fun h' st' sb => ?_
    have I1 : Inv X pins σ H { s with heap := h' } := I.turned (t' := s.toks) (fun b o hb e => (sb.2 b hb).trans e) f0 f1 f3 f4 f5
    obtain ⟨o, e, c, d⟩ := id st'
    exact ⟨u, rfl, go_of (s := { s with heap := h' }) e c d (by decide) ⟨x, H, I1, ru, ⟨rfl, fun ys hy => by rw [I.list_inj hy hq]; exact hx⟩, st', fun b hb => (hf b hb).1⟩⟩
  done := by
    intro X hP hw hK hc i pins s σ H E I hf st hg
    subst hP hw hK
    obtain ⟨xs, hq, hx⟩ := hg
    obtain ⟨its, rv, p, hz⟩ := I.list hq
    obtain ⟨f0, f1, f2, f3, f4, f5⟩ := hf it (by simp)
    have hl := rv.length
    exact list_endH (hc.hd0 I st.choose_spec.1 st.choose_spec.2.1) st p.isList (by simp; omega) fun h' eb => ⟨rfl, I.turned (t' := s.toks) (fun b o hb e => eb b o hb e) f0 f1 f3 f4 f5⟩
  self := fun _ _ _ _ _ st h => wpAny_pyIter_listiter st h
theorem pi_listS {l : Expr} {tl : TE} (hl : PE X l tl) : PIS X tg l (iList X.K tl) := by
  intro pins s σ H R I h
  refine thn (hl pins s σ H _ I h) fun v s1 ⟨x, H1, I1, r1, q1⟩ => ?_
  obtain ⟨a, e, ⟨xs, hq⟩, q⟩ := q1
  subst e
  cases r1
  obtain ⟨its, rv, p, hz⟩ := I1.list hq
  refine wpAny_pyIter_list p.isList ?_
  refine ⟨s1.heap.objs.size, [s1.heap.objs.size], _, _, H1, rfl, I1.kept (t' := s1.toks) fun b o e => Heap.get?_push_of_some _ e, turn_listS a _, ⟨_, Heap.get?_push_size _ rfl, rfl, rfl⟩, fun b hb => ?_, q⟩
  have e : b = s1.heap.objs.size := by simpa using hb
  subst e
  exact I1.fpOk (Nat.le_refl _) (I1.hok.fresh (Nat.le_refl _))
theorem pg_tupS {es : List Expr} {k : Nat} {t : TGs} {n : Nat} (hc : Still X) (h : PGs X es t)
    (hn : (assignEach es X.env).length = n := by rfl) (hst : (assignEach es X.env).findIdx? (·.1) = none := by rfl) : PG X (.Tuple es k pos) (gTup X.K n t) := by
  intro pins s σ H v u Q I r hw
  obtain ⟨a, xs, e1, hq, hl, hw⟩ := hw
  subst e1
  cases r
  obtain ⟨its, rv, ht, hz⟩ := I.tuple hq
  refine asgTupH (hc.hd1 I) ht (by simp [hn, ← hl, rv.length]) hst fun h' hx => ?_
  have I1 : Inv X pins σ H { s with heap := h' } := I.kept (t' := s.toks) fun b o e => hx b o (Nat.ne_of_lt (Heap.lt_size e)) e
  exact h pins _ σ H xs _ Q I1 (by simpa using rv) hw
end
section
variable {X : Cx}
theorem lc_coreS {pins : List (Addr × Obj)} {s : Shared} {σ : St} {H : Hp} {Q : VK} {elt tg iter : Expr} {ifs : List Expr} {scope : Scope} {own : List (Str × Nat)} {pos pos' : Pos} {wi : TI} {g : TG} {tt : TT} {te : TE} {use : Option (Value → Sem Unit)} {Qf : Value → Shared → Prop}
    (hc : Still X) (hN : X.N.Nodup) (I : Inv X pins σ H s) (hi : PIS X tg iter wi) (ok : BlkOk X.N X.env.scope scope own)
    (hg : ∀ (s : Shared) (H : Hp) (C : Addr) (cl : List (Str × Addr)) (fp : List Addr), Still (X.blk s H scope (compEnvC scope cl C X.env) fp) → PG (X.blk s H scope (compEnvC scope cl C X.env) fp) tg g) (ht : ∀ (s : Shared) (H : Hp) (C : Addr) (cl : List (Str × Addr)) (fp : List Addr), PTs (X.blk s H scope (compEnvC scope cl C X.env) fp) ifs tt)
    (he : ∀ (s : Shared) (H : Hp) (C : Addr) (cl : List (Str × Addr)) (fp : List Addr), PE (X.blk s H scope (compEnvC scope cl C X.env) fp) elt te) (hs : ∀ x, foldedSetIterable iter X.env x = pure x)
    (h : tLc wi g tt te (own.map (·.2)) σ H Q)
    (hRR : ∀ D C s' m H', Inv X pins σ H' s' → Q (.ref D) H' → s'.heap.Ns C m → FpOk X pins H' C → compPost (model X.prog X.w) X.A X.xe use Qf (.ref D) C (.ok .next) s') :
    wpAny (model X.prog X.w) X.A (comprehension (.ListComp elt [⟨tg, iter, ifs, 0⟩] scope pos) scope X.env pos' (newList []) false (eval iter X.env) use) Qf X.xe s := by
  have hfree : ∀ y ∈ scope.names, y.2 = .free → ∃ c, X.env.cells.lookup y.1 = some c := fun y hy e => by
    rcases ok.free y hy e with k | k
    · exact I.ok.has _ (.inl k)
    · exact I.ok.has _ (.inr k)
  refine wpAny_comprehension_free (use := use) rfl hs (closure_ok hfree) ok.kind (fun y hy e => by rw [ok.uniq y hy, e])
    (thn (hi pins s σ H _ I h) fun xv s1 hx => thn hx fun itv s2 h2 => ?_)
  obtain ⟨it, fp, tn, J, H2, e, I2, T, st2, f2, q⟩ := h2
  subst e
  refine wpAny_newObj_type (newEnv_comp ?_) (by show 0 ≤ sizeLine; decide)
  generalize hD : s2.heap.objs.size = D
  have hDn : H2 D = none := I2.hok.fresh (Nat.le_of_eq hD)
  obtain ⟨W, ⟨m0, w0⟩, turn⟩ := q D hDn
  -- the new list
  generalize hs3 : ({ s2 with heap := s2.heap.push { cls := .type "list", data := .seq ([] : List Value).toArray } } : Shared) = s3
  have I3 : Inv X pins σ (upd H2 D (.lst [])) s3 := by
    rw [← hs3]
    refine I2.laid (t' := s2.toks) (fun b o e => Heap.get?_push_of_some _ e) (Nat.le_of_eq hD) ⟨Nat.zero_le _, [], 0, .nil, ?_⟩
    rw [← hD]
    exact Heap.get?_push_size _ rfl
  have h3 : s3.heap = s2.heap.push { cls := .type "list", data := .seq ([] : List Value).toArray } := by rw [← hs3]
  have sz : ∀ b ∈ fp, b < s2.heap.objs.size := fun b hb => by
    obtain ⟨o, e, _⟩ := T.obj _ _ st2 b hb
    exact Heap.lt_size e
  have f3 : ∀ b ∈ fp, FpOk X pins (upd H2 D (.lst [])) b ∧ b < s3.heap.objs.size := fun b hb => by
    have hlt := sz b hb
    refine ⟨⟨?_, (f2 b hb).2⟩, by rw [h3, Heap.size_push]; exact Nat.lt_succ_of_lt hlt⟩
    rw [upd_ne (by rw [← hD]; exact Nat.ne_of_lt hlt)]
    exact (f2 b hb).1
  have st3 : tn 0 s3.heap := T.keep _ _ _ st2 fun b _ o e => by rw [h3]; exact Heap.get?_push_of_some _ e
  have I4 := block_start I3 ok hN f3
  have pg := hg s3 (upd H2 D (.lst [])) s3.heap.objs.size (cellsFrom (s3.heap.objs.size + 1) scope.names (cloFrom X.env.cells scope.names [])) fp (hc.blk I3 fun b hb => (f3 b hb).1)
  have pt := ht s3 (upd H2 D (.lst [])) s3.heap.objs.size (cellsFrom (s3.heap.objs.size + 1) scope.names (cloFrom X.env.cells scope.names [])) fp
  have pe := he s3 (upd H2 D (.lst [])) s3.heap.objs.size (cellsFrom (s3.heap.objs.size + 1) scope.names (cloFrom X.env.cells scope.names [])) fp
  show codeAny _ _ (.compStart (.ListComp elt [⟨tg, iter, ifs, 0⟩] scope pos) 0 (.ref it) (.ref D) (compEnvC scope (cellsFrom (s3.heap.objs.size + 1) scope.names (cloFrom X.env.cells scope.names [])) s3.heap.objs.size X.env)) (compPost (model X.prog X.w) X.A X.xe use Qf (.ref D) s3.heap.objs.size) { s3 with heap := pushCells (s3.heap.push { cls := .type "dict", data := .dict #[] }) scope.names }
  have nfp : ∀ b ∈ fp, (upd H2 D (.lst [])) b = none := fun b hb => (f3 b hb).1.1
  generalize hce : compEnvC scope (cellsFrom (s3.heap.objs.size + 1) scope.names (cloFrom X.env.cells scope.names [])) s3.heap.objs.size X.env = ce at I4 pg pt pe ⊢
  have cL : ce.locals = s3.heap.objs.size := by subst hce; rfl
  generalize hH3 : upd H2 D (.lst []) = H3 at I3 I4 pg pt pe w0 nfp f3
  generalize hs4 : ({ s3 with heap := pushCells (s3.heap.push { cls := .type "dict", data := .dict #[] }) scope.names } : Shared) = s4 at I4 ⊢
  have st4 : tn 0 s4.heap := T.keep _ _ _ st3 fun b _ o e => by rw [← hs4]; exact pushCells_keeps _ _ _ _ (Heap.get?_push_of_some _ e)
  have stat : ∀ {σ' : St} {H' : Hp} {s' : Shared}, Inv (X.blk s3 H3 scope ce fp) [] σ' H' s' → (∀ b ∈ fp, H' b = none) → ∀ b ∈ fp, FpOk (X.blk s3 H3 scope ce fp) [] H' b := fun {σ' H' s'} I' hn b hb =>
    ⟨hn b hb, (I'.ok.exf b hb).1, I'.ok.exfs b hb, .inl hb, fun x c e => (I'.ok.exf b hb).2 x c e, fun p hp => absurd (show p ∈ ([] : List (Addr × Obj)) ++ [] from hp) (by simp)⟩
  have hcB : Still (X.blk s3 H3 scope ce fp) := hc.blk I3 fun b hb => (f3 b hb).1
  have loop : codeAny (model X.prog X.w) X.A (.compLoop (.ListComp elt [⟨tg, iter, ifs, 0⟩] scope pos) 0 (.ref it) (.ref D) ce) (compPost (model X.prog X.w) X.A X.xe use Qf (.ref D) s3.heap.objs.size) s4 := by
    refine compLoop_any (fun n s' => ∃ i H', Inv (X.blk s3 H3 scope ce fp) [] (wipe σ (own.map (·.2))) H' s' ∧ tn i s'.heap ∧ (∀ b ∈ fp, H' b = none) ∧ W i n H') ?_ m0 ⟨0, H3, I4, st4, nfp, w0⟩
    rintro n s5 ⟨i, H5, I5, st5, n5, w5⟩
    rcases turn i n H5 w5 with ⟨stop, qq⟩ | ⟨go, Nx, hNx, step⟩
    · have td := T.done (X.blk s3 H3 scope ce fp) rfl rfl rfl hcB i [] s5 _ H5 (fun _ _ => False) I5 (stat I5 n5) st5 stop
      refine thnF td fun r s6 ⟨hr, I6⟩ => ?_
      subst hr
      -- back in the def's context
      have I7 : Inv X pins σ H5 s6 := I3.call' (ch := fp) I6.os I6.base I6.hok I6.bare fun b hb => ⟨(f3 b hb).1.2.2.2.1, (f3 b hb).1.2.1, (f3 b hb).1.2.2.2.2.1, (f3 b hb).1.2.2.2.2.2⟩
      have nC : H5 s3.heap.objs.size = none := by
        have z : H5 ce.locals = none := I6.free
        rw [cL] at z
        exact z
      obtain ⟨m, hn, _⟩ := I6.loc
      have hn : s6.heap.Ns ce.locals m := hn
      rw [cL] at hn
      exact hRR D s3.heap.objs.size s6 m H5 I7 qq hn (I3.fpOk (Nat.le_refl _) nC)
    · have ti := T.item (X.blk s3 H3 scope ce fp) rfl rfl rfl hcB i [] s5 _ H5 (fun _ _ => False) I5 (stat I5 n5) st5 go
      refine thnF ti fun r s6 ⟨u, hr, h6⟩ => ?_
      subst hr
      refine thnF h6 fun _ s7 ⟨x, H7, I7, r7, y7, st7, n7⟩ => ?_
      have I7' := I7.pinned (stat I7 n7) (T.obj _ _ st7)
      refine thnF (pg _ s7 _ H7 x u _ I7' r7 (step x H7 y7)) fun _ s8 ⟨σ8, H8, I8, hw8, q8⟩ => ?_
      refine thnF (pt _ s8 σ8 H8 _ I8 q8) fun b s9 ⟨H9, I9, q9⟩ => ?_
      -- the turn's end
      have fin : ∀ {s' : Shared} {H' : Hp}, Inv (X.blk s3 H3 scope ce fp) ([] ++ pinsAt fp s7.heap) σ8 H' s' → Nx H' → ∃ m, m < n ∧ ∃ i H', Inv (X.blk s3 H3 scope ce fp) [] (wipe σ (own.map (·.2))) H' s' ∧ tn i s'.heap ∧ (∀ b ∈ fp, H' b = none) ∧ W i m H' := fun {s' H'} I' nx => by
        obtain ⟨m', hm, w'⟩ := hNx H' nx
        have pin' : ∀ b ∈ fp, ∀ o, s7.heap.get? b = some o → s'.heap.get? b = some o ∧ H' b = none := fun b hb o e =>
          let z := I'.pin (b, o) (List.mem_append_right _ (List.mem_append_right _ (mem_pinsAt hb e)))
          ⟨z.1, z.2.1⟩
        have hl : (wipe σ (own.map (·.2))).length = σ8.length := by rw [← hw8, wipe_length]
        refine ⟨m', hm, i + 1, H', (I'.unpinned (pins := [])).weak hl (fun j v e => ?_), T.keep _ _ _ st7 fun b hb o e => (pin' b hb o e).1, fun b hb => ?_, w'⟩
        · rw [← hw8] at e
          exact (wipe_some e).1
        · obtain ⟨o, e, _⟩ := T.obj _ _ st7 b hb
          exact (pin' b hb o e).2
      cases b with
      | false =>
        simp only [Bool.false_eq_true, if_false] at q9 ⊢
        exact fin I9 q9
      | true =>
        simp only [if_true] at q9 ⊢
        refine thnF (pe _ s9 σ8 H9 _ I9 q9) fun z s10 ⟨yv, H10, I10, r10, acc, hD10, hz10, nx⟩ => ?_
        exact app_ok (X := X.blk s3 H3 scope ce fp) I10 hD10 hz10 r10 fun s11 I11 => fin I11 nx
  exact codeAny_compStart_list loop (T.self X.A 0 _ _ _ st4 loop)
theorem pe_lcS {elt tg iter : Expr} {ifs : List Expr} {scope : Scope} {own : List (Str × Nat)} {pos : Pos} {wi : TI} {g : TG} {tt : TT} {te : TE} (hc : Still X) (hN : X.N.Nodup) (hi : PIS X tg iter wi) (ok : BlkOk X.N X.env.scope scope own)
    (hg : ∀ (s : Shared) (H : Hp) (C : Addr) (cl : List (Str × Addr)) (fp : List Addr), Still (X.blk s H scope (compEnvC scope cl C X.env) fp) → PG (X.blk s H scope (compEnvC scope cl C X.env) fp) tg g) (ht : ∀ (s : Shared) (H : Hp) (C : Addr) (cl : List (Str × Addr)) (fp : List Addr), PTs (X.blk s H scope (compEnvC scope cl C X.env) fp) ifs tt)
    (he : ∀ (s : Shared) (H : Hp) (C : Addr) (cl : List (Str × Addr)) (fp : List Addr), PE (X.blk s H scope (compEnvC scope cl C X.env) fp) elt te) (hs : ∀ x, foldedSetIterable iter X.env x = pure x := by intro _; rfl) :
    PE X (.ListComp elt [⟨tg, iter, ifs, 0⟩] scope pos) (tLc wi g tt te (own.map (·.2))) := by
  intro pins s σ H Q I h
  rw [eval_ListComp]
  refine lc_coreS hc hN I hi ok hg ht he hs h fun D C s' m H' I' q hn f => ⟨m, hn, fun h'' sb => ?_⟩
  obtain ⟨f0, f1, f2, f3, f4, f5⟩ := f
  exact ⟨.ref D, H', I'.turned (t' := s'.toks) (fun b o hb e => (sb.2 b hb).trans e) f0 f1 f3 f4 f5, rfl, q⟩
end
end L2

/-! part Fu -/
set_option Elab.async false
set_option linter.all false
set_option maxRecDepth 100000
namespace L2
open PySem PySem.Spec PyProof.Rows
/-- a def's body while an exception is handled -/
def cxH (P : Program) (w : World) (K : PySem.W.Frag) (mg : Str → Option Value) (base : Heap) (N : List Str) (qual : Str) (scope : Scope) (f : Addr) (cd : Value) (A : Around) (outer : List Env) (s : Shared) (H : Hp) : Cx where
  prog := P
  w := w
  K := K
  mg := mg
  base := base
  A := A.deeper (envOfC qual scope s.heap.objs.size f cd)
  N := N
  s_0 := s
  H_0 := H
  env := envOfC qual scope s.heap.objs.size f cd
  outer := outer
  stack := envOfC qual scope s.heap.objs.size f cd :: outer
  ex := []
  calm := false
  fn := fun _ => true
  pn := []
  xe := fun _ _ => False
theorem inv_startH {P : Program} {w : World} {K : PySem.W.Frag} {mg : Str → Option Value} {base : Heap} {N ps : List Str} {qual : Str} {scope : Scope} {f : Addr} {cd : Value} {A : Around} {outer : List Env} {s s1 : Shared} {H : Hp} {us : List Value} {vs : List V}
    (S : FnScope N ps scope) (e0 : Env0 P w K mg base A outer s H) (hl : vs.length = ps.length) (r : Vals vs us)
    (x : InCallC s s.heap.objs.size (bindL (envOfC qual scope s.heap.objs.size f cd).kindOf (ps.zip us) fun _ => none) (cellsFrom (s.heap.objs.size + 1) scope.names []) (bindC (envOfC qual scope s.heap.objs.size f cd).kindOf (ps.zip us) fun _ => none) s1) :
    Inv (cxH P w K mg base N qual scope f cd A outer s H) [] (start N vs) H s1 := by
  have hpl : ps.length ≤ N.length := by have := congrArg List.length S.pre; rw [List.length_take] at this; omega
  obtain ⟨h1, tk, rfl, hk⟩ := x.done
  have noA : ∀ b : Addr, b ∉ (cxH P w K mg base N qual scope f cd A outer s H).ex := fun b z => absurd (show b ∈ ([] : List Addr) from z) (by simp)
  refine ⟨⟨e0.mod, S.kind, rfl, rfl, Nat.le_refl _, fun y z c h1 h2 => ?_, fun y hy => ?_, fun y c _ h => ?_, fun z => (by cases z), Around.frames_deeper e0.frames, .inr ⟨rfl, rfl⟩, fun b z => absurd z (noA b), e0.bs, e0.bsz, fun b _ _ => noA b, fun b z => absurd z (noA b), e0.funs, e0.frf⟩,
    rfl, e0.bare, Un.kept hk, ⟨_, x.toInCall.ns, fun i y v h1 h2 h3 => ?_⟩, fun y c h => ⟨_, x.cell y c h⟩, e0.hok.fresh (Nat.le_refl _), fun y c h => ?_, fun p hp => absurd (show p ∈ ([] : List (Addr × Obj)) from hp) (by simp), e0.hok.kept hk, ?_⟩
  · exact name_of_addr x.apart (PySem.mem_of_lookup h1) (PySem.mem_of_lookup h2)
  · have hy : scope.names.lookup y = some .cell ∨ scope.names.lookup y = some .free := hy
    rcases hy with hy | hy
    · exact cell_has hy
    · exact absurd rfl (S.nofree _ (PySem.mem_of_lookup hy))
  · exact Nat.le_of_lt (x.above y c (PySem.mem_of_lookup h))
  · have hi : i < vs.length := by
      unfold start at h2
      by_cases hi : i < vs.length
      · exact hi
      · rw [List.getElem?_append_right (by simpa using hi)] at h2
        rw [List.getElem?_replicate] at h2
        split at h2 <;> cases h2
    have ha : vs[i]? = some v := by
      unfold start at h2
      rw [List.getElem?_append_left (by simpa using hi), List.getElem?_map] at h2
      cases e : vs[i]? with
      | none => rw [e] at h2; cases h2
      | some a => rw [e] at h2; cases h2; rfl
    obtain ⟨u, hu, rv⟩ := r.get ha
    have hp : ps[i]? = some y := by
      rw [← S.pre, List.getElem?_take_of_lt (by omega)]; exact h1
    have ndP : ps.Nodup := by rw [← S.pre]; exact S.nd.sublist (List.take_sublist _ _)
    refine ⟨u, rv, ?_⟩
    rcases S.par y (List.mem_of_getElem? hp) with k | k
    · exact .inl ⟨k, bindL_get ndP hp hu k⟩
    · obtain ⟨c, e⟩ := cell_has (n := s.heap.objs.size + 1) k
      refine .inr ⟨.inl k, c, e, ?_⟩
      have q := x.cell y c e
      rw [bindC_get ndP hp hu (by show scope.names.lookup y ≠ _; rw [k]; decide)] at q
      exact q
  · exact e0.hok.fresh (Nat.le_of_lt (x.above y c (PySem.mem_of_lookup h)))
  · unfold start
    show _ = N.length
    rw [List.length_append, List.length_map, List.length_replicate]
    omega


section
variable {P : Program} {w : World} {K : PySem.W.Frag} {mg : Str → Option Value} {base : Heap}
/-- THE RULE for a def that is called while an exception is handled; nothing leaves it -/
theorem Fun.okH {x qual : Str} {st : Stmt} {f : Addr} {fd : FuncData} {N ps : List Str} {A : Around} {outer : List Env} {s : Shared} {H : Hp} {args : Args} {us : List Value} {vs : List V} {Q : VK} (F : Fun K x qual st f fd) (S : FnScope N ps (defScope st))
    (hdp : A.depth < recursionLimit) (e0 : Env0 P w K mg base A outer s H) (hb : BindsTo s fd args (ps.zip us)) (r : Vals vs us) (hl : vs.length = ps.length)
    (hbody : ∀ cdv : Value, ∃ t, PSs (cxH P w K mg base N qual (defScope st) f cdv A outer s H) (defBody st) t ∧ t { nx := fun _ H' => Q .non H', rt := Q } (start N vs) H) : codeAny (model P w) A (.call (.ref f) args) (CR CX0 outer P w H s Q E0) s := by
  obtain ⟨oc, od, kV, doc, pm, an, cdv, ct, osl, rfl, lk, hcd⟩ := F.ex
  have KX : K.In s.heap := e0.mod.kin.keeps fun b o e => (e0.bs b o e).1
  have lim : s.heap.NoLimit := e0.mod.nolimit.keeps fun b o e => (e0.bs b o e).1
  have hkind : ∀ y ∈ ps.zip us, (defScope st).names.lookup y.1 = some .local ∨ ((defScope st).names.lookup y.1 = some .cell ∧ ((cellsFrom (s.heap.objs.size + 1) (defScope st).names []).lookup y.1).isSome = true) := fun ⟨n, v⟩ hy => by
    rcases S.par n (List.of_mem_zip hy).1 with q | q
    · exact .inl q
    · exact .inr ⟨q, PySem.W.cellsFrom_some _ _ _ (.inl q)⟩
  refine codeAny_call_function hdp (KX _ _ lk) rfl S.co S.gen rfl (PySem.W.codeRec_of KX hcd) (hb _ _ _ _ ?_)
  refine wpAny_newFunctionEnv_cells S.kind hkind fun env he s1 x => ?_
  subst he
  refine ⟨lim.keeps x.toInCall.keep, codeAny_func ?_⟩
  obtain ⟨t, ht, hq⟩ := hbody cdv
  have I : Inv (cxH P w K mg base N qual (defScope st) f cdv A outer s H) [] (start N vs) H s1 := inv_startH S e0 hl r x
  refine wpAny_mono (ht [] s1 (start N vs) H _ I hq) (fun fl s' hs => ?_) fun e s' hs => hs.elim
  have fin : ∀ {σ' : St} {H' : Hp} {v : V} {u : Value}, Inv (cxH P w K mg base N qual (defScope st) f cdv A outer s H) [] σ' H' s' → RelV v u → Q v H' → CE outer P w H s Q u s' :=
    fun {σ' H' v u} J rv q => ⟨v, H', J.os, J.bare, J.base, J.hok, rv, q⟩
  cases fl with
  | ret u =>
    obtain ⟨v, σ', H', J, rv, q⟩ := hs
    exact fin J rv q
  | next =>
    obtain ⟨σ', H', J, q⟩ := hs
    exact fin (v := V.non) (u := Value.none) J rfl q
  | brk =>
    obtain ⟨_, _, _, q⟩ := hs
    exact False.elim q
  | cont =>
    obtain ⟨_, _, _, q⟩ := hs
    exact False.elim q
end
/-- an exception of the class at C without a dict, that was there at the entry -/
structure Exc (X : Cx) (a C : Addr) : Prop where
  ex : ∃ oe vs, X.s_0.heap.get? a = some oe ∧ oe.cls = .ref C ∧ oe.dict = none ∧ oe.data = .fields vs ∧ vs[2]? = some .none ∧ X.H_0 a = none ∧ a ∉ X.fs ∧ a ∉ X.ex
theorem Exc.inst {X : Cx} {a C : Addr} {pins : List (Addr × Obj)} {σ : St} {H : Hp} {s : Shared} (x : Exc X a C) (I : Inv X pins σ H s) : ∃ oe, PySem.W.InstAt s.heap a oe C none := by
  obtain ⟨oe, vs, c2, c3, c4, c5, c6, c7, c8, c9⟩ := x.ex
  refine ⟨oe, I.base.keep a oe c2 c7 c8 c9, c3, ?_, ?_⟩
  · unfold PySem.W.notCls; rw [c5]
  · rw [c4]; trivial
theorem Exc.still {X : Cx} {a C : Addr} (x : Exc X a C) (h : X.A.handled = some (.ref a)) : Still X := by
  obtain ⟨oe, vs, c2, c3, c4, c5, c6, c7, c8, c9⟩ := x.ex
  exact .inr ⟨a, oe, vs, C, h, c2, c3, c5, c6, c7, c8, c9⟩
/-- what isinstance wants of the class of an exception -/
structure XCls (K : PySem.W.Frag) (C : Addr) : Prop where
  hg : PySem.W.findIn K (.ref C) "__getattribute__" = some (some (.builtin "BaseException.__getattribute__"))
  hgn : PySem.W.findIn K (.ref C) "__getattr__" = some none
  hb : PySem.W.subIn K (.ref C) (.type "BaseException") = some true
  hd : PySem.W.hasDictIn K C = true
  ha : PySem.W.findIn K (.ref C) "__class__" = some (some (.builtin "object.__class__"))
  hn : PySem.W.specialIn K (.builtin "object.__class__") "__get__" = some (some (.builtin "getset_descriptor.__get__"))
  ht : PySem.W.takesIn K (.builtin "object.__class__") = some true
  hm : PySem.W.mroIn K C (.type "object") = some true
section
variable {X : Cx}
theorem call_isexc {a C : Addr} (x : Exc X a C) (c : XCls X.K C) : CallR X (.builtin "isinstance") (fun xs H Q => ∃ D b, xs = [.ref a, .ref D] ∧ PySem.W.kitOne X.K (.ref C) (.ref D) = some b ∧ Q (.bl b) H) := by
  intro pins s σ H xs us Q I r h
  obtain ⟨D, b, rfl, e, q⟩ := h
  cases r with
  | cons r1 r2 =>
    cases r2 with
    | cons r2 r3 =>
      cases r3
      cases (show _ = Value.ref a from r1)
      cases (show _ = Value.ref D from r2)
      obtain ⟨oe, J⟩ := x.inst I
      exact PySem.W.kia_one (kitx_exc c.hg c.hgn c.hb c.hd c.ha c.hn c.ht c.hm) I.kIn J e (fun z => nomatch z) fun tk => ⟨.bl b, H, I.tok tk, rfl, q⟩
end
end L2

/-! part Fv -/
set_option Elab.async false
set_option linter.all false
set_option maxRecDepth 100000
namespace L2
open PySem PySem.Spec PyProof.Rows
/-- the builtins' module of the main module -/
def Bm (mg : Str → Option Value) (h : Heap) : Prop := ∃ bm ob, mg "__builtins__" = some (.ref bm) ∧ bm ≠ builtinsNs ∧ h.get? bm = some ob ∧ ob.cls = .type "module" ∧ ob.dict = some builtinsNs ∧ ob.data = .plain
/-- THE HEAD where defs make lambdas: their code tables are tracked from the law's entry on -/
theorem law_callT {P : Program} {w : World} {K : PySem.W.Frag} {mg mb : Str → Option Value} {CX : CXT} {k : Nat} {fa a : Addr} {fd : FuncData} {x : Str} {sp : Sp} {s₁ : Shared} {vs : List Value} {ns : List Int} {tabs : List (Addr × Addr)}
    (KX : K.In s₁.heap) (hns : s₁.heap.Ns mainGlobals mg) (hb : s₁.heap.Ns builtinsNs mb) (hbb : ∀ x : Str, x ≠ "__name__" → mb x = bootBuiltins x) (hlim : s₁.heap.NoLimit) (hbm : Bm mg s₁.heap) (hg : s₁.gens = #[])
    (hT : PySem.W.TabsAt tabs s₁.heap) (hKt : PySem.W.noTabs K = true)
    (ha : s₁.heap.get? a = some { cls := .type "list", data := .seq vs.toArray }) (hi : IntsAre vs ns) (hl : ns.length ≤ sizeLine) (hr : Room k callerA)
    (F : ∀ base : Heap, K.In base → base.Ns mainGlobals mg → (∀ q ∈ tabs, PySem.W.CodeHd base q.1 q.2) → Bm mg base → FnOk P w K mg base CX k fa fd [x] sp) (hbind : ∀ (s : Shared) (u : Value), BindsTo s fd ⟨[u], []⟩ [(x, u)])
    (hsp : ∀ H : Hp, (∀ q ∈ tabs, H q.2 = some (.tbl #[])) → SqL K H a (ns.map V.int) → sp [.ref a] H (fun v _ => v = .bl true) fun _ _ _ => False)
    (hCX : ∀ H e s', CX [] H s₁ (fun _ _ _ => False) e s' → False) :
    codeAny (model P w) callerA (.call (.ref fa) ⟨[.ref a], []⟩) (fun r s' => r = .ok (.ret (.bool true)) ∧ OldK s₁.heap s'.heap ∧ s'.os = s₁.os ∧ AllBare s'.gens) s₁ := by
  have rv := vals_ints hi
  have lenV := hi.length
  have kT : ∀ q ∈ tabs, K.lookup q.2 = none := fun q hq => by
    cases e : K.lookup q.2 with
    | none => rfl
    | some o =>
      have h1 := (KX _ _ e).symm.trans (hT q hq).2
      have h2 := List.all_eq_true.mp hKt (q.2, o) (PySem.W.mem_of_lookupK e)
      cases h1
      exact absurd (show false = true from h2) Bool.false_ne_true
  have aT : ∀ q ∈ tabs, q.2 ≠ a := fun q hq z => by
    have h1 := (hT q hq).2
    rw [z, ha] at h1
    cases h1
  have core : ∀ H : Hp, (∀ b, H b = none ∨ (b = a ∧ ∃ o xs, H b = some (.frz o (.lst xs))) ∨ (b ∈ tabs.map (·.2) ∧ H b = some (.tbl #[]))) → (∀ q ∈ tabs, H q.2 = some (.tbl #[])) → SqL K H a (ns.map V.int) → HOk P w H s₁.heap → (H a ≠ none → K.lookup a = none) →
      codeAny (model P w) callerA (.call (.ref fa) ⟨[.ref a], []⟩) (fun r s' => r = .ok (.ret (.bool true)) ∧ OldK s₁.heap s'.heap ∧ s'.os = s₁.os ∧ AllBare s'.gens) s₁ := by
    intro H hO hTb hS hok hK
    have base_of : ∀ {b : Addr} {o : Obj}, s₁.heap.get? b = some o → H b = none → (hidT s₁.heap H).get? b = some o := fun e n => hidT_get e n
    have tabAt : ∀ {b : Addr}, b ∈ tabs.map (·.2) → s₁.heap.get? b = some (PySem.W.tabObj #[]) := fun {b} hb => by
      obtain ⟨q, hq, rfl⟩ := List.mem_map.mp hb
      exact (hT q hq).2
    have free : ∀ {b : Addr} {o : Obj}, s₁.heap.get? b = some o → (∀ vs n, o.data ≠ .seq vs n) → o ≠ PySem.W.tabObj #[] → H b = none := fun {b o} e d t => by
      rcases hO b with z | ⟨z, _⟩ | ⟨z, _⟩
      · exact z
      · subst z; rw [ha] at e; cases e; exact absurd rfl (d _ _)
      · rw [tabAt z] at e; exact absurd (Option.some.inj e).symm t
    have nsK : ∀ {b : Addr} {m : Str → Option Value}, s₁.heap.Ns b m → (hidT s₁.heap H).Ns b m := fun {b m} ⟨o, es, ep, e, d, r⟩ => ⟨o, es, ep, base_of e (free e (fun _ _ z => by rw [d] at z; cases z) fun z => by rw [z] at d; cases d), d, r⟩
    have hKb : K.In (hidT s₁.heap H) := fun b o e => base_of (KX b o e) (by
      rcases hO b with z | ⟨z, o', xs, q⟩ | ⟨z, q⟩
      · exact z
      · subst z; rw [hK (by rw [q]; simp)] at e; cases e
      · obtain ⟨p, hp, rfl⟩ := List.mem_map.mp z
        rw [kT p hp] at e; cases e)
    have hM : Mod K mg (hidT s₁.heap H) := ⟨hKb, nsK hns, ⟨mb, nsK hb, hbb⟩, let ⟨mc, h1, h2⟩ := hlim; ⟨mc, nsK h1, h2⟩⟩
    have hcode : ∀ q ∈ tabs, PySem.W.CodeHd (hidT s₁.heap H) q.1 q.2 := fun q hq => by
      obtain ⟨o, vs', file, tf, flags, tg, inF, text, tt, e1, r1, r2, r3⟩ := (hT q hq).1
      exact ⟨o, vs', file, tf, flags, tg, inF, text, tt, base_of e1 (free e1 (fun _ _ z => by rw [r2] at z; cases z) fun z => by rw [z] at r1; cases r1), r1, r2, r3⟩
    have hbm' : Bm mg (hidT s₁.heap H) := by
      obtain ⟨bm, ob, b1, b2, b3, b4, b5, b6⟩ := hbm
      exact ⟨bm, ob, b1, b2, base_of b3 (free b3 (fun _ _ z => by rw [b6] at z; cases z) fun z => by rw [z] at b4; cases b4), b4, b5, b6⟩
    have e0 : Env0 P w K mg (hidT s₁.heap H) callerA [] s₁ H := ⟨rfl, hM, fun b o e => of_hidT e, Nat.le_of_eq (hidT_size _ _), trivial, fun b hb => absurd (show b ∈ ([] : List Addr) from hb) (by simp), hok, .of_eq hg⟩
    refine codeAny_mono ((F _ hKb (nsK hns) hcode hbm').run callerA [] s₁ H ⟨[.ref a], []⟩ [.ref a] [.ref a] _ _ hr e0 (hbind s₁ (.ref a)) (.cons rfl .nil) (hsp H hTb hS)) fun r s' h => ?_
    cases r with
    | error e => exact (hCX H e s' h).elim
    | ok fl =>
      cases fl with
      | next => exact False.elim h
      | brk => exact False.elim h
      | cont => exact False.elim h
      | ret u =>
        obtain ⟨v, H', os, bare, un, hok', r', q⟩ := h
        have q' : v = .bl true := q
        subst q'
        obtain rfl : u = Value.bool true := r'
        have keep : ∀ b o, b ∉ tabs.map (·.2) → s₁.heap.get? b = some o → s'.heap.get? b = some o := fun b o hb e => by
          rcases hO b with z | ⟨z, ob, xs, q⟩ | ⟨z, q⟩
          · exact un.keep b o e z (by intro z; exact absurd (show b ∈ ([] : List Addr) from z) (by simp)) (by simp)
          · have z2 := un.frzs b ob _ q
            obtain ⟨e1, _⟩ := hok b _ q
            obtain ⟨e2, _⟩ := hok' b _ z2
            rw [e] at e1; cases e1
            exact e2
          · exact absurd z hb
        have grown : ∀ b o, b ∈ tabs.map (·.2) → s₁.heap.get? b = some o → isCodeTable s₁.heap b ∧ o = PySem.W.tabObj #[] ∧ ∃ ps, s'.heap.get? b = some (PySem.W.tabObj ps) := fun b o hb e => by
          obtain ⟨q, hq, rfl⟩ := List.mem_map.mp hb
          have e2 := (hT q hq).2
          rw [e] at e2
          obtain ⟨more, e3⟩ := un.tbls _ _ (hTb q hq)
          exact ⟨((hT q hq).1.tab (hT q hq).2).isCodeTable, Option.some.inj e2, _, hok' _ _ e3⟩
        refine ⟨rfl, ⟨fun b o e => ?_, fun b o e => ?_⟩, os, bare⟩
        · by_cases hb : b ∈ tabs.map (·.2)
          · obtain ⟨ht, rfl, ps, hP⟩ := grown b o hb e
            exact .inr (.inl ⟨ht, rfl, #[], ps, rfl, by rw [Array.empty_append]; exact hP⟩)
          · exact .inl (keep b o hb e)
        · by_cases hb : b ∈ tabs.map (·.2)
          · obtain ⟨_, _, ps, hP⟩ := grown b o hb e
            exact ⟨_, hP⟩
          · exact ⟨o, keep b o hb e⟩
  have tb : ∀ q ∈ tabs, q.2 ∈ tabs.map (·.2) := fun q hq => List.mem_map_of_mem hq
  cases hk : K.lookup a with
  | some o =>
    have e := KX a o hk
    rw [ha] at e
    cases e
    refine core (fun b => if b ∈ tabs.map (·.2) then some (.tbl #[]) else none) (fun b => ?_) (fun q hq => if_pos (tb q hq)) (.inr ⟨_, vs.toArray, _, hk, rfl, rfl, rfl, by rw [List.size_toArray, lenV]; exact hl, by simpa using rv⟩) (fun b u z => ?_) fun z => ?_
    · by_cases hb : b ∈ tabs.map (·.2)
      · exact .inr (.inr ⟨hb, if_pos hb⟩)
      · exact .inl (if_neg hb)
    · by_cases hb : b ∈ tabs.map (·.2)
      · have z' := (if_pos hb).symm.trans z
        cases z'
        obtain ⟨q, hq, rfl⟩ := List.mem_map.mp hb
        exact (hT q hq).2
      · have z' := (if_neg hb).symm.trans z
        cases z'
    · refine absurd (if_neg fun hb => ?_) z
      obtain ⟨q, hq, e⟩ := List.mem_map.mp hb
      exact aT q hq e
  | none =>
    have na : a ∉ tabs.map (·.2) := fun hb => by
      obtain ⟨q, hq, e⟩ := List.mem_map.mp hb
      exact aT q hq e
    refine core (fun b => if b = a then some (.frz { cls := .type "list", data := .seq vs.toArray } (.lst (ns.map V.int))) else if b ∈ tabs.map (·.2) then some (.tbl #[]) else none) (fun b => ?_) (fun q hq => ?_) (.inl (.inr ⟨{ cls := .type "list", data := .seq vs.toArray }, if_pos rfl⟩)) (fun b u z => ?_) fun _ => hk
    · by_cases hb : b = a
      · exact .inr (.inl ⟨hb, _, _, if_pos hb⟩)
      · by_cases hb' : b ∈ tabs.map (·.2)
        · exact .inr (.inr ⟨hb', (if_neg hb).trans (if_pos hb')⟩)
        · exact .inl ((if_neg hb).trans (if_neg hb'))
    · exact (if_neg (aT q hq)).trans (if_pos (tb q hq))
    · by_cases hb : b = a
      · have z' := (if_pos hb).symm.trans z
        cases z'
        subst hb
        exact ⟨ha, by rw [List.length_map]; exact hl, vs, _, rv, ha⟩
      · have z := (if_neg hb).symm.trans z
        by_cases hb' : b ∈ tabs.map (·.2)
        · have z' := (if_pos hb').symm.trans z
          cases z'
          obtain ⟨q, hq, rfl⟩ := List.mem_map.mp hb'
          exact (hT q hq).2
        · have z' := (if_neg hb').symm.trans z
          cases z'
/-- the goal that k_head leaves, from the law's promise; the law itself makes lambdas (its code at c, the table at Pt) -/
theorem walk_ofT {l : PySem.W.OpenLaw} {n k : Nat} {q : Program} {loose : List Str} {XP : (Str → Option Value) → Heap → Prop} {YP : World → Heap → Prop} {d : DefRec} {K : Params → PySem.W.Frag} {CX : World → CXT} {sp : World → Sp} {x : Str}
    (hn : l.most = some n) (hn2 : n ≤ sizeLine) (hdf : d.params.defaults = []) (hr : Room k callerA)
    (hY : ∀ (w : World) (h : Heap), YP w h → (K w.params).In h)
    (hrec : (recsOf q).find? (fun e => e.name == d.name) = some d)
    (F : ∀ (w : World) (mg : Str → Option Value) (fa : Addr) (h : Heap), (K w.params).In h → h.Ns mainGlobals mg → mg d.name = some (.ref fa) →
      ∃ c Pt : Addr, PySem.W.tabIn (K w.params) d.name = some (c, Pt) ∧ PySem.W.noTabs (K w.params) = true ∧
      (∀ (H : Hp) (a : Addr) (ns : List Int), ns.length ≤ n → H Pt = some (.tbl #[]) → SqL (K w.params) H a (ns.map V.int) → sp w [.ref a] H (fun v _ => v = .bl true) fun _ _ _ => False) ∧
      ∃ fd : FuncData, (∀ (s : Shared) (u : Value), BindsTo s fd ⟨[u], []⟩ [(x, u)]) ∧
        ∀ base : Heap, (K w.params).In base → base.Ns mainGlobals mg → PySem.W.CodeHd base c Pt → Bm mg base → FnOk l.prog w (K w.params) mg base (CX w) k fa fd [x] (sp w))
    (hCX : ∀ (w : World) (H : Hp) (s : Shared) (e : Value) (s' : Shared), CX w [] H s (fun _ _ _ => False) e s' → False) :
    PySem.W.WalkO q loose XP YP l.row.toRowW d [] (fun f vs => PySem.call f vs) := by
  refine Att.attach_call hn hdf fun w s₀ s₁ mg mb fa o pm cd doc a vs ns G Y ho hd hcd hmg hobj hints hlen hg => ?_
  have KX := hY w _ Y
  obtain ⟨c, Pt, ht, hk, hsp, fd, hb, hF⟩ := F w mg fa _ KX G.T.g hmg
  have hT : PySem.W.TabsAt [(c, Pt)] s₁.heap := fun p hp => by
    have e : p = (c, Pt) := by simpa using hp
    subst e
    exact PySem.W.tab_of G.T KX hrec ht
  exact law_callT (tabs := [(c, Pt)]) KX G.T.g G.T.b G.T.builtins G.T.nolimit G.T.bmain hg hT hk hobj hints (Nat.le_trans hlen hn2) hr (fun base h1 h2 h3 h4 => hF base h1 h2 (h3 (c, Pt) (by simp)) h4) hb (fun H hO hS => hsp H a ns hlen (hO (c, Pt) (by simp)) hS) fun H e s' => hCX w H s₁ e s'
end L2

/-! part Fw -/
set_option Elab.async false
set_option linter.all false
set_option maxRecDepth 100000
namespace L2
open PySem PySem.Spec PyProof.Rows
theorem triples_snoc {a b : Int} {t u : Tok} {c : Value} : ∀ {l : List Value}, TriplesOk l → TriplesOk (l ++ [.int a t, .int b u, c])
  | [], _ => trivial
  | .int _ _ :: .int _ _ :: _ :: r, h => triples_snoc (l := r) h
  | [.int _ _], h => h.elim
  | [.int _ _, .int _ _], h => h.elim
theorem among_snoc {a b : Int} {t u : Tok} {c v : Value} {pos : Pos} : ∀ {l : List Value}, TriplesOk l → codeAmong pos (l ++ [.int a t, .int b u, c]) = some v → codeAmong pos l = some v ∨ v = c
  | [], _, h => by
    simp only [List.nil_append, codeAmong] at h
    split at h
    · exact .inr (Option.some.inj h).symm
    · cases h
  | .int a' _ :: .int b' _ :: c' :: r, hT, h => by
    simp only [List.cons_append, codeAmong] at h ⊢
    split at h
    · rename_i q; rw [if_pos q]; exact .inl h
    · rename_i q; rw [if_neg q]; exact among_snoc (l := r) hT h
  | [.int _ _], h, _ => h.elim
  | [.int _ _, .int _ _], h, _ => h.elim
/-- the table of a def's lambdas -/
def TabOk (H : Hp) (Pt : Addr) (qual : Str) : Prop := ∃ ps : Array Value, H Pt = some (.tbl ps) ∧ TriplesOk ps.toList ∧ ∀ pos cv, codeAmong pos ps.toList = some cv → ∃ c' oc vs t, cv = .ref c' ∧ H c' = some (.frz oc (.own c')) ∧ oc.data = .fields vs ∧ vs[1]? = some (.str qual t)
theorem TabOk.start {H : Hp} {Pt : Addr} {qual : Str} (h : H Pt = some (.tbl #[])) : TabOk H Pt qual := ⟨#[], h, trivial, fun pos cv e => by simp [codeAmong] at e⟩
theorem TabOk.keep {H H' : Hp} {Pt : Addr} {qual : Str} (T : TabOk H Pt qual) (k : ∀ b o, H b = some o → (∃ ps, o = .tbl ps) ∨ (∃ oc u, o = .frz oc u) → H' b = some o) : TabOk H' Pt qual := by
  obtain ⟨ps, h1, h2, h3⟩ := T
  refine ⟨ps, k _ _ h1 (.inl ⟨_, rfl⟩), h2, fun pos cv e => ?_⟩
  obtain ⟨c', oc, vs, t, e1, e2, e3⟩ := h3 pos cv e
  exact ⟨c', oc, vs, t, e1, k _ _ e2 (.inr ⟨_, _, rfl⟩), e3⟩
section
variable {X : Cx} {pins : List (Addr × Obj)} {σ : St} {H : Hp} {s : Shared} {c Pt : Addr} {params : Arguments} {body : Expr} {scope : Scope} {pos : Pos} {M : Model} {A : Around} {E : Value → Shared → Prop} {Q : Value → Shared → Prop}
theorem mk_lam (I : Inv X pins σ H s) (T : TabOk H Pt (X.env.qual ++ "<lambda>")) (hcode : X.env.code = .ref c) (hC : PySem.W.CodeHd X.base c Pt) (hBm : Bm X.mg X.base) (hfree : ∀ y ∈ scope.names, y.2 = .free → ∃ c, X.env.cells.lookup y.1 = some c) (hdef : defaultsOf params X.env = ([], []))
    (h : ∀ g c' oc vs t ctv s' H', Inv X pins σ H' s' → TabOk H' Pt (X.env.qual ++ "<lambda>") → (∀ b o, b ≠ Pt → H b = some o → H' b = some o) →
      s'.heap.get? g = some (PySem.W.kla_obj "<lambda>" (X.env.qual ++ "<lambda>") params body scope (cloFrom X.env.cells scope.names []) ((X.mg "__name__").getD .none) c' ctv) → s.heap.objs.size ≤ g → H' g = none →
      H' c' = some (.frz oc (.own c')) → oc.data = .fields vs → vs[1]? = some (.str (X.env.qual ++ "<lambda>") t) → Q (.ref g) s') : wpAny M A (eval (.Lambda params body scope pos) X.env) Q E s := by
  obtain ⟨ps, h1, h2, h3⟩ := id T
  have hP : s.heap.get? Pt = some (PySem.W.tabObj ps) := I.hok _ _ h1
  have hgs : s.heap.Ns mainGlobals X.mg := I.mod.glob.keeps I.bk
  obtain ⟨bm, ob, b1, b2, b3, b4, b5, b6⟩ := hBm
  have hgP : mainGlobals ≠ Pt := fun q => by
    obtain ⟨o, es, ep, e, hd, _⟩ := hgs
    rw [q, hP] at e; cases e; cases hd
  have hbP : bm ≠ Pt := fun q => by
    have e := I.bk _ _ b3
    rw [q, hP] at e; cases e; cases b4
  have hbG : bm ≠ mainGlobals := fun q => by
    obtain ⟨o, es, ep, e, hd, _⟩ := I.mod.glob
    rw [q, e] at b3; cases b3; rw [hd] at b6; cases b6
  have hB : s.heap.BuiltinsAt X.mg Pt := ⟨bm, ob, b1, b2, hbG, hbP, I.bk _ _ b3, b4, b5, b6⟩
  have hC' := hC.keeps I.bk
  refine PySem.W.kla_eval hdef ?_
  cases hca : codeAmong pos ps.toList with
  | none =>
    refine PySem.W.kla_makeFunction (mg := X.mg) (closure_ok hfree) I.ok.glob hgs hcode hC' hP h2 hca hgP hB fun c' ctv h' tk hx hge hlt hrec htb => ?_
    obtain ⟨c₂, oc, vs, t, e2, hoc, hd, hv⟩ := hrec
    cases e2
    have nP : ∀ b u, H b = some u → u ≠ .tbl ps → b ≠ Pt := fun b u e n z => by rw [z, h1] at e; exact n (Option.some.inj e).symm
    have lt : ∀ b o, s.heap.get? b = some o → b ≠ c' := fun b o e => Nat.ne_of_lt (Nat.lt_of_lt_of_le (Heap.lt_size e) hge)
    have Hc : H c' = none := I.hok.fresh hge
    have cP : c' ≠ Pt := fun z => by rw [z, h1] at Hc; cases Hc
    generalize hH' : upd (upd H c' (.frz oc (.own c'))) Pt (.tbl (ps ++ #[rawInt pos.line, rawInt pos.col, .ref c'])) = H'
    have get' : ∀ b u, b ≠ Pt → H b = some u → H' b = some u := fun b u n e => by rw [← hH', upd_ne n, upd_ne (ne_of_none e Hc)]; exact e
    have getn : ∀ b, b ≠ Pt → b ≠ c' → H' b = H b := fun b n n' => by rw [← hH', upd_ne n, upd_ne n']
    have getP : H' Pt = some (.tbl (ps ++ #[rawInt pos.line, rawInt pos.col, .ref c'])) := by rw [← hH']; exact upd_same
    have getC : H' c' = some (.frz oc (.own c')) := by rw [← hH', upd_ne cP]; exact upd_same
    generalize hfn : (PySem.W.kla_obj "<lambda>" (X.env.qual ++ "<lambda>") params body scope (cloFrom X.env.cells scope.names []) ((X.mg "__name__").getD .none) c' ctv) = fn
    have kp : ∀ b o, b ≠ Pt → s.heap.get? b = some o → (h'.push fn).get? b = some o := fun b o n e => Heap.get?_push_of_some _ (hx b o n e)
    have un : Un X.fs [] H H' s.heap (h'.push fn) := by
      refine ⟨fun b o q n _ _ => kp b o (fun z => by rw [z, h1] at n; cases n) q, fun b o q n _ _ => ⟨o.slots, kp b o (fun z => by rw [z, h1] at n; cases n) q⟩, fun b o q n _ => ?_, fun b o q _ => ?_, fun b xs q => get' b _ (nP b _ q (by simp)) q, fun b u xs q => get' b _ (nP b _ q (by simp)) q, fun b qs q => ?_⟩
      · rw [getn b (fun z => by rw [z, h1] at n; cases n) (lt b o q)]; exact n
      · by_cases hb : b = Pt
        · subst hb; exact ⟨_, Heap.get?_push_of_some _ htb⟩
        · exact ⟨o, kp b o hb q⟩
      · by_cases hb : b = Pt
        · subst hb
          rw [h1] at q
          cases q
          exact ⟨_, getP⟩
        · exact ⟨#[], by rw [get' b _ hb q]; simp⟩
    have hok : HOk X.prog X.w H' (h'.push fn) := fun b u e => by
      by_cases hb : b = Pt
      · subst hb
        rw [getP] at e
        cases e
        exact Heap.get?_push_of_some _ htb
      · by_cases hb' : b = c'
        · subst hb'
          rw [getC] at e
          cases e
          exact ⟨Heap.get?_push_of_some _ hoc, _, Heap.get?_push_of_some _ hoc⟩
        · rw [getn b hb hb'] at e
          refine (I.hok b u e).stay (fun d v hc q => kp d v ?_ q) (fun d q => get' d _ (nP d _ q (by simp)) q) fun d xs q => get' d _ (nP d _ q (by simp)) q
          rcases hc with z | z
          · rw [z]; exact hb
          · exact nP d _ z (by simp)
    have I' : Inv X pins σ H' { s with heap := h'.push fn, toks := tk } := I.un un hok
    have gz : s.heap.objs.size ≤ h'.objs.size := Nat.le_trans hge (Nat.le_of_lt hlt)
    refine h h'.objs.size c' oc vs t ctv _ H' I' ⟨_, getP, ?_, fun pos' cv e => ?_⟩ get' ?_ gz ?_ getC hd hv
    · rw [Array.toList_append]
      exact triples_snoc h2
    · rw [Array.toList_append] at e
      rcases among_snoc h2 e with e | e
      · obtain ⟨c2, oc2, vs2, t2, e1, e2, e3⟩ := h3 pos' cv e
        exact ⟨c2, oc2, vs2, t2, e1, get' _ _ (nP _ _ e2 (by simp)) e2, e3⟩
      · exact ⟨c', oc, vs, t, e, getC, hd, hv⟩
    · rw [hfn]
      exact Heap.get?_push_size _ (by rw [← hfn]; rfl)
    · rw [getn _ (fun z => ?_) (Nat.ne_of_gt hlt)]
      · exact I.hok.fresh gz
      · have := I.hok.fresh gz
        rw [z, h1] at this; cases this
  | some cv =>
    obtain ⟨c', oc, vs, t, e1, e2, e3, e4⟩ := h3 pos cv hca
    subst e1
    refine PySem.W.kla_makeFunctionHit (mg := X.mg) (closure_ok hfree) I.ok.glob hgs hcode hC' hP h2 hca hB fun ctv h' tk hk hsz => ?_
    refine h h'.objs.size c' oc vs t ctv _ H (I.kept (t' := tk) fun b o e => Heap.get?_push_of_some _ (hk b o e)) T (fun b o _ e => e) (Heap.get?_push_size _ rfl) hsz (I.hok.fresh hsz) e2 e3 e4
end
/-- the answer of a try of a function that was handed in: what it told, or the word of its refusal -/
def whyQ (Q : VK) : VK := fun v H2 => ∀ tp, H2 tp = none → Q (.ref tp) (upd H2 tp (.tup [v, .str ""]))
def whyE (KW : Value → Str → Prop) (Q : VK) : XK := fun C d H2 => d = none ∧ ∃ word, KW C word ∧ ∀ H3 tp, Same H2 H3 → H3 tp = none → Q (.ref tp) (upd H3 tp (.tup [.non, .str word]))
/-- such a def's promise -/
def WhyOk (P : Program) (w : World) (K : PySem.W.Frag) (mg : Str → Option Value) (base : Heap) (j k : Nat) (f : Addr) (KW : Value → Str → Prop) : Prop :=
  ∀ (A : Around) (outer : List Env) (s : Shared) (H : Hp) (g : Addr) (Q : VK), Room k A → Env0 P w K mg base A outer s H → AskAt P w K mg base j outer s H g (whyQ Q) (whyE KW Q) →
    codeAny (model P w) A (.call (.ref f) ⟨[.ref g], []⟩) (CR CX0 outer P w H s Q E0) s
section
variable {X : Cx} {j k : Nat} {f c Pt : Addr} {x : Str} {p pos lpos : Pos} {params : Arguments} {body : Expr} {scope : Scope} {KW : Value → Str → Prop} {js : List Nat} {Nl : List Str} {t : XK → TE}
def capt (js : List Nat) (σ : St) : St := js.map fun i => (σ[i]?).getD none
def tWhy (Pt : Addr) (qual : Str) (KW : Value → Str → Prop) (js : List Nat) (t : XK → TE) : TE := fun σ H Q => TabOk H Pt qual ∧ ∀ H', TabOk H' Pt qual → (∀ b o, b ≠ Pt → H b = some o → H' b = some o) → t (whyE KW Q) (capt js σ) H' (whyQ Q)
/-- why(lambda: body) -/
theorem pe_why (W : WhyOk X.prog X.w X.K X.mg X.base (j + 1) k f KW) (hr : Room k X.A) (hg : Gl X x) (hm : X.mg x = some (.ref f)) (hk : PySem.W.keepIn X.K (.ref f) = true) (hcode : X.env.code = .ref c) (hC : PySem.W.CodeHd X.base c Pt) (hBm : Bm X.mg X.base) (hfn : ∀ y, X.fn y = true)
    (hkind : scope.kind = .function) (hco : scope.isCoroutine = false) (hgen : scope.isGenerator = false) (hfr : ∀ y ∈ scope.names, y.2 = .free ∨ y.2 = .globalImplicit) (hfree : ∀ y ∈ scope.names, y.2 = .free → X.env.kindOf y.1 = some .cell)
    (hNl : Nl.length = js.length) (hjs : ∀ (i : Nat) (y : Str) (n : Nat), Nl[i]? = some y → js[i]? = some n → X.N[n]? = some y ∧ scope.names.lookup y = some .free)
    (ht : ∀ (cl : List (Str × Addr)) (g : Addr) (cd : Value) (A : Around) (outer : List Env) (s : Shared) (H : Hp) (E : XK), Room j (A.deeper (PySem.W.envX (X.env.qual ++ "<lambda>") scope s.heap.objs.size g cd cl)) → PE (cxL X.prog X.w X.K X.mg X.base Nl (X.env.qual ++ "<lambda>") scope cl g cd A outer s H E) body (t E))
    (hd : (x == ("__debug__" : Str)) = false := by decide) (hdef : defaultsOf params X.env = ([], []) := by rfl)
    (hb : ∀ (cl : List (Str × Addr)) (pm cd ctv : Value), bindArgs (PySem.W.kla_fn "<lambda>" (X.env.qual ++ "<lambda>") params body scope cl pm cd ctv) ⟨[], []⟩ = pure [] := by intros; rfl)
    (he : starEach [(.Lambda params body scope lpos : Expr)] X.env = (false, eval (.Lambda params body scope lpos) X.env) :: starEach [] X.env := by rfl) :
    PE X (.Call (.Name x p) [.Lambda params body scope lpos] [] pos) (tWhy Pt (X.env.qual ++ "<lambda>") KW js t) := by
  intro pins s σ H Q I h
  obtain ⟨T, h⟩ := h
  refine wpAny_Call_Name_kw (ld_glob I hg hm ?_ hd)
  refine PySem.W.callWith_K (h₀ := X.base) I.ok.mod.kin hk ?_ he rfl
  have hcell : ∀ y ∈ scope.names, y.2 = .free → ∃ c, X.env.cells.lookup y.1 = some c := fun y hy e => I.ok.has _ (.inl (hfree y hy e))
  refine spliced_more (mk_lam I T hcode hC hBm hcell hdef fun g c' oc vs tq ctv s1 H1 I1 T1 k1 ho hgz hHg hc1 hd1 hv1 => ?_) he
  refine spliced_none ⟨I1.kIn, ?_⟩
  have gfr : g ∉ frs X.stack := fun z => by
    rcases List.mem_cons.mp (I.stkSub g z) with z | z
    · exact absurd (Nat.lt_of_lt_of_le I.lt hgz) (by rw [z]; exact Nat.lt_irrefl _)
    · exact I.nofs hgz z
  have cfr : ∀ y a, X.env.cells.lookup y = some a → a ∉ frs X.stack := fun y a e z => by
    rcases List.mem_cons.mp (I.stkSub a z) with z | z
    · exact I.cne y a e z
    · obtain ⟨_, o, ho, _⟩ := I.ok.funs.mem (show a ∈ X.outer.filterMap (·.frame) from z)
      exact absurd (Nat.lt_of_lt_of_le (Heap.lt_size ho) (I.ok.cab y a (hfn y) e)) (Nat.lt_irrefl _)
  have clo : ∀ {y : Str} {a : Addr}, (cloFrom X.env.cells scope.names []).lookup y = some a → (y, .free) ∈ scope.names ∧ X.env.cells.lookup y = some a := fun {y a} e => by
    rcases cloFrom_mem (PySem.mem_of_lookup e) with z | ⟨z1, z2⟩
    · cases z
    · obtain ⟨c2, e2⟩ := hcell _ z1 rfl
      refine ⟨z1, ?_⟩
      rw [z2, e2]; rfl
  refine wpAny_call (codeAny_mono (W X.A X.stack s1 H1 g Q hr I1.env0 ⟨⟨_, _, _, _, ho⟩, hHg, gfr, fun A' outer' s' hr' e0 kept => ?_⟩) fun r s' hq => ?_)
  · have hcd : s'.heap.CodeRec (.ref c') (X.env.qual ++ "<lambda>") := ⟨c', oc, vs, tq, rfl, (e0.hok _ _ hc1).1, hd1, hv1⟩
    refine lam_run (N := Nl) (σ := capt js σ) (t := t (whyE KW Q)) hr' e0 (kept g _ ho hHg gfr) hcd (hb _ _ _ _) ?_ (ht _ _ _ _ _ _ _ _ (hr'.deeper _)) (h H1 T1 k1)
    refine ⟨hkind, hco, hgen, fun y hy e => ?_, fun y a e => ?_, fun y a e => I1.freeC y a (clo e).2, fun y z a e1 e2 => I1.ok.inj y z a (clo e1).2 (clo e2).2, fun y e => ?_, fun i y v e1 e2 => ?_, ?_⟩
    · rcases hfr y hy with z | z <;> rw [z] at e <;> cases e
    · obtain ⟨v, o, z1, z2⟩ := I1.cell y a (clo e).2
      exact ⟨v, o, kept _ _ z1 (I1.freeC y a (clo e).2) (cfr y a (clo e).2), z2⟩
    · exact mem_lookup (cloFrom_has (cells := X.env.cells) (acc := []) (PySem.mem_of_lookup e))
    · have e2' : (js.map fun i => (σ[i]?).getD none)[i]? = some (some v) := e2
      rw [List.getElem?_map] at e2'
      cases q : js[i]? with
      | none => rw [q] at e2'; cases e2'
      | some n =>
        rw [q] at e2'
        have e3 : (σ[n]?).getD none = some v := Option.some.inj e2'
        have e4 : σ[n]? = some (some v) := by
          cases z : σ[n]? with
          | none => rw [z] at e3; cases e3
          | some w' => rw [z] at e3; exact congrArg some e3
        obtain ⟨f1, f2⟩ := hjs i y n e1 q
        have mem := PySem.mem_of_lookup f2
        have kc : X.env.kindOf y = some .cell := hfree _ mem rfl
        obtain ⟨m, hn, hl⟩ := I1.loc
        obtain ⟨u, r, l⟩ := hl n y v f1 e4 (.inr (.inl kc))
        refine ⟨f2, ?_⟩
        rcases l with ⟨z, _⟩ | ⟨_, a, ea, za⟩
        · rw [kc] at z; cases z
        · obtain ⟨a', ea'⟩ := mem_lookup (cloFrom_has (cells := X.env.cells) (acc := []) mem)
          have ee := (clo ea').2
          rw [ea] at ee; cases ee
          obtain ⟨o, z1, z2⟩ := za
          exact ⟨a, u, ea', r, o, kept _ _ z1 (I1.freeC y a ea) (cfr y a ea), z2⟩
    · show (js.map _).length = _
      rw [List.length_map]; exact hNl.symm
  · cases r with
    | error e => exact hq.elim
    | ok fl =>
      cases fl with
      | ret u => exact I1.after hq
      | next => exact False.elim hq
      | brk => exact False.elim hq
      | cont => exact False.elim hq
end
end L2
namespace L2
open PySem PySem.Spec PyProof.Rows
/-- a lambda's scope, looked through: its names are captured or global; the captured ones are cells of the def, at the places js -/
def lamOk (N : List Str) (sc scope : Scope) (Nl : List Str) (js : List Nat) : Bool :=
  scope.kind == .function && !scope.isCoroutine && !scope.isGenerator && scope.names.all (fun y => y.2 == .free || y.2 == .globalImplicit) && scope.names.all (fun y => !(y.2 == .free) || sc.names.lookup y.1 == some .cell) &&
  Nl.length == js.length && (Nl.zip js).all (fun p => N[p.2]? == some p.1 && scope.names.lookup p.1 == some .free)
section
variable {X : Cx} {j k : Nat} {f c Pt : Addr} {x : Str} {p pos lpos : Pos} {params : Arguments} {body : Expr} {scope : Scope} {KW : Value → Str → Prop} {t : XK → TE}
theorem pe_whyB (sc : Scope) (N Nl : List Str) (js : List Nat) (hsc : X.env.scope = sc) (hN : X.N = N) (W : WhyOk X.prog X.w X.K X.mg X.base (j + 1) k f KW) (hr : Room k X.A) (hg : Gl X x) (hm : X.mg x = some (.ref f)) (hk : PySem.W.keepIn X.K (.ref f) = true) (hcode : X.env.code = .ref c) (hC : PySem.W.CodeHd X.base c Pt) (hBm : Bm X.mg X.base) (hfn : ∀ y, X.fn y = true)
    (ok : lamOk N sc scope Nl js = true)
    (ht : ∀ (cl : List (Str × Addr)) (g : Addr) (cd : Value) (A : Around) (outer : List Env) (s : Shared) (H : Hp) (E : XK), Room j (A.deeper (PySem.W.envX (X.env.qual ++ "<lambda>") scope s.heap.objs.size g cd cl)) → PE (cxL X.prog X.w X.K X.mg X.base Nl (X.env.qual ++ "<lambda>") scope cl g cd A outer s H E) body (t E))
    (hd : (x == ("__debug__" : Str)) = false := by decide) (hdef : defaultsOf params X.env = ([], []) := by rfl)
    (hb : ∀ (cl : List (Str × Addr)) (pm cd ctv : Value), bindArgs (PySem.W.kla_fn "<lambda>" (X.env.qual ++ "<lambda>") params body scope cl pm cd ctv) ⟨[], []⟩ = pure [] := by intros; rfl)
    (he : starEach [(.Lambda params body scope lpos : Expr)] X.env = (false, eval (.Lambda params body scope lpos) X.env) :: starEach [] X.env := by rfl) :
    PE X (.Call (.Name x p) [.Lambda params body scope lpos] [] pos) (tWhy Pt (X.env.qual ++ "<lambda>") KW js t) := by
  unfold lamOk at ok
  simp only [Bool.and_eq_true, beq_iff_eq, Bool.not_eq_true', List.all_eq_true, Bool.or_eq_true] at ok
  obtain ⟨⟨⟨⟨⟨⟨o1, o2⟩, o3⟩, o4⟩, o5⟩, o6⟩, o7⟩ := ok
  refine pe_why (js := js) (Nl := Nl) W hr hg hm hk hcode hC hBm hfn o1 o2 o3 o4 (fun y hy e => ?_) o6 (fun i y n e1 e2 => ?_) ht hd hdef hb he
  · rcases o5 y hy with z | z
    · rw [e] at z; cases z
    · show X.env.scope.names.lookup y.1 = _
      rw [hsc]; exact z
  · have m : (y, n) ∈ Nl.zip js := by
      refine List.mem_of_getElem? (i := i) ?_
      rw [List.getElem?_zip_eq_some]
      exact ⟨e1, e2⟩
    obtain ⟨z1, z2⟩ := o7 _ m
    exact ⟨by rw [hN]; exact z1, z2⟩
end
section
variable {P : Program} {w : World} {K : PySem.W.Frag} {mg : Str → Option Value} {base : Heap}
/-- a def that makes lambdas: its code's address is known -/
theorem Fun.okL {x qual : Str} {st : Stmt} {f c : Addr} {fd : FuncData} {N ps : List Str} {k : Nat} {sp : Sp} (F : Fun K x qual st f fd) (S : FnScope N ps (defScope st)) (hc : fd.code = .ref c) (len : ∀ vs H Q E, sp vs H Q E → vs.length = ps.length)
    (hbody : ∀ (A : Around) (outer : List Env) (s : Shared) (H : Hp) (vs : List V) (Q : VK) (E : XK), Room k (A.deeper (envOfC qual (defScope st) s.heap.objs.size f (.ref c))) → sp vs H Q E →
      ∃ t, PSs (cxOf CX0 P w K mg base N qual (defScope st) f (.ref c) A outer s H E).nox (defBody st) t ∧ t { nx := fun _ H' => Q .non H', rt := Q } (start N vs) H) : FnOk P w K mg base CX0 (k + 1) f fd ps sp := by
  obtain ⟨oc, od, kV, doc, pm, an, cdv, ct, osl, rfl, lk, hcd⟩ := F.ex
  obtain rfl : cdv = .ref c := hc
  refine fn_of lk hcd S len fun A outer s H vs Q E hr hsp => ?_
  obtain ⟨t, h, q⟩ := hbody A outer s H vs Q E hr hsp
  exact ⟨t, h.nox, q⟩
/-- a def at one entry, its body run where nothing is pinned; nothing leaves it -/
theorem Fun.at0 {x qual : Str} {st : Stmt} {f : Addr} {fd : FuncData} {N ps : List Str} {k : Nat} {A : Around} {outer : List Env} {s : Shared} {H : Hp} {args : Args} {us : List Value} {vs : List V} {Q : VK} (F : Fun K x qual st f fd) (S : FnScope N ps (defScope st))
    (hr : Room (k + 1) A) (e0 : Env0 P w K mg base A outer s H) (hb : BindsTo s fd args (ps.zip us)) (r : Vals vs us) (hl : vs.length = ps.length)
    (hbody : ∀ cdv : Value, Room k (A.deeper (envOfC qual (defScope st) s.heap.objs.size f cdv)) → ∃ t, PSs0 (cxOf CX0 P w K mg base N qual (defScope st) f cdv A outer s H E0).nox (defBody st) t ∧ t { nx := fun _ H' => Q .non H', rt := Q } (start N vs) H) : codeAny (model P w) A (.call (.ref f) args) (CR CX0 outer P w H s Q E0) s := by
  obtain ⟨oc, od, kV, doc, pm, an, cdv, ct, osl, rfl, lk, hcd⟩ := F.ex
  have KX : K.In s.heap := e0.mod.kin.keeps fun b o e => (e0.bs b o e).1
  have lim : s.heap.NoLimit := e0.mod.nolimit.keeps fun b o e => (e0.bs b o e).1
  have hkind : ∀ y ∈ ps.zip us, (defScope st).names.lookup y.1 = some .local ∨ ((defScope st).names.lookup y.1 = some .cell ∧ ((cellsFrom (s.heap.objs.size + 1) (defScope st).names []).lookup y.1).isSome = true) := fun ⟨n, v⟩ hy => by
    rcases S.par n (List.of_mem_zip hy).1 with q | q
    · exact .inl q
    · exact .inr ⟨q, PySem.W.cellsFrom_some _ _ _ (.inl q)⟩
  refine codeAny_call_function hr.depth (KX _ _ lk) rfl S.co S.gen rfl (PySem.W.codeRec_of KX hcd) (hb _ _ _ _ ?_)
  refine wpAny_newFunctionEnv_cells S.kind hkind fun env he s1 x => ?_
  subst he
  refine ⟨lim.keeps x.toInCall.keep, codeAny_func ?_⟩
  obtain ⟨t, ht, hq⟩ := hbody cdv (hr.deeper _)
  have I : Inv (cxOf CX0 P w K mg base N qual (defScope st) f cdv A outer s H E0) [] (start N vs) H s1 := inv_start S hr.hd e0 hl r x
  refine wpAny_mono (ht s1 (start N vs) H _ (I.wish _) hq) (fun fl s' hs => ?_) fun e s' hs => hs.elim
  have hs := hs.unwish
  have fin : ∀ {σ' : St} {H' : Hp} {v : V} {u : Value}, Inv (cxOf CX0 P w K mg base N qual (defScope st) f cdv A outer s H E0) [] σ' H' s' → RelV v u → Q v H' → CE outer P w H s Q u s' :=
    fun {σ' H' v u} J rv q => ⟨v, H', J.os, J.bare, J.base, J.hok, rv, q⟩
  cases fl with
  | ret u =>
    obtain ⟨v, σ', H', J, rv, q⟩ := hs
    exact fin J rv q
  | next =>
    obtain ⟨σ', H', J, q⟩ := hs
    exact fin (v := V.non) (u := Value.none) J rfl q
  | brk =>
    obtain ⟨_, _, _, q⟩ := hs
    exact False.elim q
  | cont =>
    obtain ⟨_, _, _, q⟩ := hs
    exact False.elim q
end
end L2

/-! part Hm -/
namespace Hm
abbrev W := List Bool
def lt : W → W → Prop
  | _, [] => False
  | [], _ :: _ => True
  | a :: x, b :: y => (a = false ∧ b = true) ∨ (a = b ∧ lt x y)
theorem lt_nil (x : W) : ¬ lt x [] := by cases x <;> exact id
theorem lt_cons {a b : Bool} {x y : W} : lt (a :: x) (b :: y) ↔ (a = false ∧ b = true) ∨ (a = b ∧ lt x y) := Iff.rfl
theorem nil_lt {b : Bool} {y : W} : lt [] (b :: y) := trivial
theorem lt_irrefl : ∀ x : W, ¬ lt x x
  | [], h => h
  | a :: x, h => by
    rcases h with ⟨h1, h2⟩ | ⟨_, h⟩
    · rw [h1] at h2; cases h2
    · exact lt_irrefl x h
theorem lt_trans : ∀ {x y z : W}, lt x y → lt y z → lt x z
  | _, [], _, h, _ => absurd h (lt_nil _)
  | _, _ :: _, [], _, h => absurd h (lt_nil _)
  | [], _ :: _, _ :: _, _, _ => trivial
  | a :: x, b :: y, c :: z, h1, h2 => by
    rcases h1 with ⟨rfl, rfl⟩ | ⟨rfl, h1⟩
    · rcases h2 with ⟨h, _⟩ | ⟨rfl, _⟩
      · cases h
      · exact .inl ⟨rfl, rfl⟩
    · rcases h2 with h2 | ⟨rfl, h2⟩
      · exact .inl h2
      · exact .inr ⟨rfl, lt_trans h1 h2⟩
theorem lt_tri : ∀ {x y : W}, ¬ lt y x → x ≠ y → lt x y
  | [], [], _, h => absurd rfl h
  | [], _ :: _, _, _ => trivial
  | _ :: _, [], h, _ => absurd trivial h
  | a :: x, b :: y, h, n => by
    by_cases e : a = b
    · subst e
      exact .inr ⟨rfl, lt_tri (fun z => h (.inr ⟨rfl, z⟩)) fun z => n (by rw [z])⟩
    · cases a <;> cases b <;> first | exact absurd rfl e | exact .inl ⟨rfl, rfl⟩ | exact absurd (.inl ⟨rfl, rfl⟩) h
theorem lt_pre : ∀ {x y : W}, x <+: y → x ≠ y → lt x y
  | [], [], _, n => absurd rfl n
  | [], _ :: _, _, _ => trivial
  | a :: x, [], h, _ => by simp at h
  | a :: x, b :: y, h, n => by
    rw [List.cons_prefix_cons] at h
    obtain ⟨rfl, h⟩ := h
    exact .inr ⟨rfl, lt_pre h fun z => n (by rw [z])⟩
/-- between the two halves of t stands only what is below the first -/
theorem between : ∀ {t b : W}, lt (t ++ [false]) b → lt b (t ++ [true]) → (t ++ [false]) <+: b
  | [], [], h, _ => absurd h (lt_nil _)
  | [], true :: b, _, h => by
    rcases h with ⟨h, _⟩ | ⟨_, h⟩
    · cases h
    · exact absurd h (lt_nil _)
  | [], false :: b, _, _ => by simp
  | c :: t, [], h, _ => absurd h (lt_nil _)
  | c :: t, d :: b, h1, h2 => by
    rcases h1 with ⟨rfl, rfl⟩ | ⟨rfl, h1⟩
    · rcases h2 with ⟨h, _⟩ | ⟨h, _⟩ <;> cases h
    · rcases h2 with ⟨h, h'⟩ | ⟨_, h2⟩
      · rw [h] at h'; cases h'
      · show c :: (t ++ [false]) <+: c :: b
        rw [List.cons_prefix_cons]
        exact ⟨rfl, between h1 h2⟩
theorem lt_drop : ∀ {h x : W}, lt x (h ++ [false]) → ¬ x <+: h ++ [false] → lt x h
  | [], [], _, n => absurd (List.nil_prefix) n
  | [], a :: x, h, _ => by
    rcases h with ⟨_, h⟩ | ⟨_, h⟩
    · cases h
    · exact absurd h (lt_nil _)
  | c :: h, [], _, n => absurd (List.nil_prefix) n
  | c :: h, a :: x, l, n => by
    rcases l with l | ⟨rfl, l⟩
    · exact .inl l
    · refine .inr ⟨rfl, lt_drop l fun z => n ?_⟩
      show a :: x <+: a :: (h ++ [false])
      rw [List.cons_prefix_cons]
      exact ⟨rfl, z⟩
/-! ### rows under heads -/
abbrev Row := Nat → Bool
def Un : W → Row → Prop
  | [], _ => True
  | b :: x, r => r 0 = b ∧ Un x fun n => r (n + 1)
theorem un_app : ∀ {x y : W} {r : Row}, Un (x ++ y) r ↔ Un x r ∧ Un y fun n => r (n + x.length)
  | [], y, r => by simp [Un]
  | b :: x, y, r => by
    show (r 0 = b ∧ Un (x ++ y) _) ↔ (r 0 = b ∧ Un x _) ∧ _
    rw [un_app, and_assoc]
    have e : (fun n => r (n + x.length + 1)) = fun n => r (n + (b :: x).length) := by funext n; rfl
    rw [e]
theorem un_snoc {x : W} {b : Bool} {r : Row} : Un (x ++ [b]) r ↔ Un x r ∧ r x.length = b := by
  rw [un_app]
  simp [Un]
theorem un_cmp : ∀ {x y : W} {r : Row}, Un x r → Un y r → x <+: y ∨ y <+: x
  | [], _, _, _, _ => .inl List.nil_prefix
  | _ :: _, [], _, _, _ => .inr List.nil_prefix
  | a :: x, b :: y, r, ⟨h1, u1⟩, ⟨h2, u2⟩ => by
    rw [List.cons_prefix_cons, List.cons_prefix_cons]
    have e : a = b := h1.symm.trans h2
    subst e
    rcases un_cmp u1 u2 with h | h
    · exact .inl ⟨rfl, h⟩
    · exact .inr ⟨rfl, h⟩
theorem un_ex : ∀ x : W, ∃ r, Un x r
  | [] => ⟨fun _ => false, trivial⟩
  | b :: x => by
    obtain ⟨r, h⟩ := un_ex x
    exact ⟨fun n => match n with | 0 => b | n + 1 => r n, rfl, h⟩
def den (S : List W) (r : Row) : Prop := ∃ x ∈ S, Un x r
def Ap (x y : W) : Prop := ¬ x <+: y ∧ ¬ y <+: x
def Anti (l : List W) : Prop := l.Pairwise Ap
def AC (S : List W) : Prop := ∀ x ∈ S, ∀ y ∈ S, x <+: y → x = y
def Full (S : List W) (x : W) : Prop := ∀ r, Un x r → den S r
theorem longest {p : W} : ∀ {S : List W} {x : W}, x ∈ S → p <+: x → ∃ y ∈ S, p <+: y ∧ ∀ z ∈ S, p <+: z → z.length ≤ y.length
  | [], _, h, _ => by cases h
  | a :: S, x, hx, hp => by
    by_cases hS : ∃ z ∈ S, p <+: z
    · obtain ⟨z, hz, hpz⟩ := hS
      obtain ⟨y, hy, hpy, hm⟩ := longest hz hpz
      by_cases ha : p <+: a ∧ y.length < a.length
      · refine ⟨a, .head _, ha.1, fun z hz hpz => ?_⟩
        rcases List.mem_cons.mp hz with rfl | hz
        · exact Nat.le_refl _
        · exact Nat.le_trans (hm z hz hpz) (Nat.le_of_lt ha.2)
      · refine ⟨y, .tail _ hy, hpy, fun z hz hpz => ?_⟩
        rcases List.mem_cons.mp hz with rfl | hz
        · exact Nat.le_of_not_lt fun q => ha ⟨hpz, q⟩
        · exact hm z hz hpz
    · rcases List.mem_cons.mp hx with rfl | hx
      · refine ⟨x, .head _, hp, fun z hz hpz => ?_⟩
        rcases List.mem_cons.mp hz with rfl | hz
        · exact Nat.le_refl _
        · exact absurd ⟨z, hz, hpz⟩ hS
      · exact absurd ⟨x, hx, hp⟩ hS
theorem sorted_ext : ∀ {l1 l2 : List W}, l1.Pairwise lt → l2.Pairwise lt → (∀ x, x ∈ l1 ↔ x ∈ l2) → l1 = l2
  | [], [], _, _, _ => rfl
  | [], b :: l2, _, _, h => by have := (h b).mpr (.head _); cases this
  | a :: l1, [], _, _, h => by have := (h a).mp (.head _); cases this
  | a :: l1, b :: l2, p1, p2, h => by
    obtain ⟨a1, q1⟩ := List.pairwise_cons.mp p1
    obtain ⟨b1, q2⟩ := List.pairwise_cons.mp p2
    have e : a = b := by
      rcases List.mem_cons.mp ((h a).mp (.head _)) with e | e
      · exact e
      · rcases List.mem_cons.mp ((h b).mpr (.head _)) with e' | e'
        · exact e'.symm
        · exact absurd (lt_trans (b1 a e) (a1 b e')) (lt_irrefl _)
    subst e
    have he : l1 = l2 := by
      refine sorted_ext q1 q2 fun x => ⟨fun hx => ?_, fun hx => ?_⟩
      · rcases List.mem_cons.mp ((h x).mp (.tail _ hx)) with e | e
        · rw [e] at hx; exact absurd (a1 a hx) (lt_irrefl _)
        · exact e
      · rcases List.mem_cons.mp ((h x).mpr (.tail _ hx)) with e | e
        · rw [e] at hx; exact absurd (b1 a hx) (lt_irrefl _)
        · exact e
    rw [he]
theorem Ap.symm {x y : W} (h : Ap x y) : Ap y x := ⟨h.2, h.1⟩
theorem Anti.perm {l m : List W} (h : Anti l) (p : l.Perm m) : Anti m := (List.Perm.pairwise_iff (fun h => Ap.symm h) p).mp h
theorem Anti.ac : ∀ {l : List W}, Anti l → AC l
  | [], _, x, hx, _, _, _ => by cases hx
  | a :: l, h, x, hx, y, hy, p => by
    obtain ⟨h1, h2⟩ := List.pairwise_cons.mp h
    rcases List.mem_cons.mp hx with ex | hx'
    · rcases List.mem_cons.mp hy with ey | hy'
      · rw [ex, ey]
      · rw [ex] at p; exact absurd p (h1 y hy').1
    · rcases List.mem_cons.mp hy with ey | hy'
      · rw [ey] at p; exact absurd p (h1 x hx').2
      · exact Anti.ac h2 x hx' y hy' p
theorem Anti.nodup {l : List W} (h : Anti l) : l.Nodup := List.Pairwise.imp (R := Ap) (S := fun a b => a ≠ b) (fun hab e => hab.1 (e ▸ List.prefix_refl _)) h
theorem anti_of {l : List W} (n : l.Nodup) (ac : AC l) : Anti l := by
  have : ∀ {m : List W}, m.Nodup → (∀ x ∈ m, x ∈ l) → Anti m := by
    intro m
    induction m with
    | nil => intro _ _; exact .nil
    | cons a m ih =>
      intro n hm
      obtain ⟨n1, n2⟩ := List.nodup_cons.mp n
      refine List.pairwise_cons.mpr ⟨fun y hy => ⟨fun p => ?_, fun p => ?_⟩, ih n2 fun x hx => hm x (.tail _ hx)⟩
      · rw [ac a (hm a (.head _)) y (hm y (.tail _ hy)) p] at n1; exact n1 hy
      · rw [← ac y (hm y (.tail _ hy)) a (hm a (.head _)) p] at n1; exact n1 hy
  exact this n fun _ h => h
/-- le and without doubles: strictly rising -/
theorem strict {l : List W} (h : l.Pairwise fun x y => ¬ lt y x) (n : l.Nodup) : l.Pairwise lt := by
  induction l with
  | nil => exact .nil
  | cons a l ih =>
    obtain ⟨h1, h2⟩ := List.pairwise_cons.mp h
    obtain ⟨n1, n2⟩ := List.nodup_cons.mp n
    exact List.pairwise_cons.mpr ⟨fun y hy => lt_tri (h1 y hy) fun e => n1 (e ▸ hy), ih h2 n2⟩
/-! ### one head for its two halves -/
theorem den_merge {A B : List W} {t : W} (r : Row) (hA : ∀ x, x ∈ A ↔ x = t ++ [false] ∨ x = t ++ [true] ∨ x ∈ B) : den A r ↔ den (t :: B) r := by
  constructor
  · rintro ⟨x, hx, u⟩
    rcases (hA x).mp hx with rfl | rfl | h
    · exact ⟨t, .head _, (un_snoc.mp u).1⟩
    · exact ⟨t, .head _, (un_snoc.mp u).1⟩
    · exact ⟨x, .tail _ h, u⟩
  · rintro ⟨x, hx, u⟩
    rcases List.mem_cons.mp hx with rfl | h
    · cases e : r x.length with
      | false => exact ⟨_, (hA _).mpr (.inl rfl), un_snoc.mpr ⟨u, e⟩⟩
      | true => exact ⟨_, (hA _).mpr (.inr (.inl rfl)), un_snoc.mpr ⟨u, e⟩⟩
    · exact ⟨x, (hA x).mpr (.inr (.inr h)), u⟩
/-- the head is apart from what its halves are apart from -/
theorem ap_merge {t x : W} (h0 : Ap x (t ++ [false])) (h1 : Ap x (t ++ [true])) : Ap x t := by
  refine ⟨fun h => h0.1 (h.trans (List.prefix_append _ _)), fun h => ?_⟩
  obtain ⟨s, rfl⟩ := h
  match s, h0, h1 with
  | [], h0, _ => exact h0.1 (by simp)
  | false :: s, h0, _ => exact h0.2 ⟨s, by simp⟩
  | true :: s, _, h1 => exact h1.2 ⟨s, by simp⟩
theorem ap_halves (t : W) : Ap (t ++ [false]) (t ++ [true]) := by
  constructor
  · intro h; have := h.eq_of_length (by simp); simp at this
  · intro h; have := h.eq_of_length (by simp); simp at this
theorem ap_half {t x : W} {b : Bool} (h : Ap x t) : Ap x (t ++ [b]) := by
  refine ⟨fun q => ?_, fun q => h.2 ((List.prefix_append _ _).trans q)⟩
  rcases List.prefix_concat_iff.mp q with e | e
  · exact h.2 (e ▸ List.prefix_append _ _)
  · exact h.1 e
/-- a cut's head parted -/
theorem split_anti {t : W} {l : List W} (h : Anti (t :: l)) : Anti (l ++ [t ++ [false], t ++ [true]]) := by
  obtain ⟨h1, h2⟩ := List.pairwise_cons.mp h
  refine List.pairwise_append.mpr ⟨h2, List.pairwise_cons.mpr ⟨fun y hy => ?_, by simp⟩, fun x hx y hy => ?_⟩
  · rw [List.mem_singleton.mp hy]; exact ap_halves t
  · rcases List.mem_cons.mp hy with rfl | hy
    · exact ap_half (h1 x hx).symm
    · rw [List.mem_singleton.mp hy]; exact ap_half (h1 x hx).symm
theorem split_den {t : W} {l : List W} (r : Row) : den (t :: l) r ↔ den (l ++ [t ++ [false], t ++ [true]]) r :=
  (den_merge r fun x => by simp only [List.mem_append, List.mem_cons, List.not_mem_nil, or_false]; constructor <;> (intro h; rcases h with h | h | h <;> simp [h])).symm
theorem den_perm {l m : List W} (p : l.Perm m) (r : Row) : den l r ↔ den m r :=
  ⟨fun ⟨x, hx, u⟩ => ⟨x, p.mem_iff.mp hx, u⟩, fun ⟨x, hx, u⟩ => ⟨x, p.mem_iff.mpr hx, u⟩⟩
/-! ### neighbours -/
def Sib (a b : W) : Prop := ∃ t, a = t ++ [false] ∧ b = t ++ [true]
def NoAdj (l : List W) : Prop := ∀ l1 a b l2, l = l1 ++ a :: b :: l2 → ¬ Sib a b
/-- what the stack and the rest are -/
structure Good (S told rest : List W) : Prop where
  st : (told ++ rest).Pairwise lt
  an : Anti (told ++ rest)
  na : NoAdj told
  de : ∀ r, den (told ++ rest) r ↔ den S r
end Hm

/-! part Tx -/
set_option Elab.async false
set_option linter.all false
set_option maxRecDepth 100000
namespace Hs
open PySem PySem.Spec PyProof.Rows L2 Hm
def cp (b : Bool) : Nat := if b then 49 else 48
/-- a head as a text -/
def tx (x : W) : Str := ⟨(x.map cp).toArray⟩
theorem tl_tx (x : W) : (tx x).cps.toList = x.map cp := rfl
theorem tx_len (x : W) : (tx x).length = x.length := by
  show ((x.map cp).toArray).size = _
  simp
theorem cp_inj {a b : Bool} (h : cp a = cp b) : a = b := by cases a <;> cases b <;> first | rfl | cases h
theorem map_cp_inj : ∀ {x y : W}, x.map cp = y.map cp → x = y
  | [], [], _ => rfl
  | [], _ :: _, h => by simp at h
  | _ :: _, [], h => by simp at h
  | a :: x, b :: y, h => by
    rw [List.map_cons, List.map_cons] at h
    injection h with h1 h2
    rw [cp_inj h1, map_cp_inj h2]
theorem tx_inj {x y : W} (h : tx x = tx y) : x = y := map_cp_inj (by rw [← tl_tx, ← tl_tx, h])
theorem txs_inj : ∀ {x y : List W}, x.map tx = y.map tx → x = y
  | [], [], _ => rfl
  | [], _ :: _, h => by simp at h
  | _ :: _, [], h => by simp at h
  | a :: x, b :: y, h => by
    rw [List.map_cons, List.map_cons] at h
    injection h with h1 h2
    rw [tx_inj h1, txs_inj h2]
theorem str_ext {x y : Str} (h : x.cps.toList = y.cps.toList) : x = y := TL.ext_tl h
theorem tx_nil : tx [] = ("" : Str) := str_ext (Eq.trans rfl (TL.tl_ofString "").symm)
theorem tx_0 : tx [false] = ("0" : Str) := str_ext (Eq.trans rfl (TL.tl_ofString "0").symm)
theorem tx_1 : tx [true] = ("1" : Str) := str_ext (Eq.trans rfl (TL.tl_ofString "1").symm)
theorem tx_app (x y : W) : tx x ++ tx y = tx (x ++ y) := str_ext (Eq.trans (TL.tl_append (tx x) (tx y)) (by show x.map cp ++ y.map cp = (x ++ y).map cp; rw [List.map_append]))
theorem tx_a0 (x : W) : tx x ++ ("0" : Str) = tx (x ++ [false]) := by rw [← tx_0, tx_app]
theorem tx_a1 (x : W) : tx x ++ ("1" : Str) = tx (x ++ [true]) := by rw [← tx_1, tx_app]
theorem sIx_m1 (n d : Nat) : HT.sIx n d (some (-1)) = n - 1 := by
  show (if (-1 : Int) < 0 then ((-1 : Int) + (n : Int)).toNat else min (-1 : Int).toNat n) = n - 1
  rw [if_pos (by decide)]
  omega
theorem cut_last (x : W) : cutS (tx x) none (some (-1)) = tx x.dropLast := by
  refine str_ext ?_
  show (((tx x).cps.toList.drop (HT.sIx (tx x).length 0 none)).take (HT.sIx (tx x).length (tx x).length (some (-1)) - HT.sIx (tx x).length 0 none)) = _
  rw [tl_tx, tl_tx, tx_len]
  rw [sIx_m1, HT.sIx_none, List.drop_zero, ← List.map_take, List.dropLast_eq_take, Nat.sub_zero]
theorem cut_end (x : W) : cutS (tx x) (some (-1)) none = tx (x.drop (x.length - 1)) := by
  refine str_ext ?_
  show (((tx x).cps.toList.drop (HT.sIx (tx x).length 0 (some (-1)))).take (HT.sIx (tx x).length (tx x).length none - HT.sIx (tx x).length 0 (some (-1)))) = _
  rw [tl_tx, tl_tx, tx_len]
  rw [sIx_m1, HT.sIx_none, ← List.map_drop, ← List.map_take, List.take_of_length_le (by rw [List.length_drop]; exact Nat.le_refl _)]
theorem drop_end (t : W) (b : Bool) : (t ++ [b]).drop ((t ++ [b]).length - 1) = [b] := by simp
theorem end_snoc (t : W) (b : Bool) : cutS (tx (t ++ [b])) (some (-1)) none = tx [b] := by rw [cut_end, drop_end]
theorem end_nil : cutS (tx []) (some (-1)) none = tx [] := by rw [cut_end]; rfl
theorem starts_tx (x y : W) : Txt.startswith (tx x) (tx y) = true ↔ y <+: x := by
  unfold Txt.startswith
  rw [StrLaws.subAt_eq, tx_len, tx_len, tl_tx, tl_tx, List.drop_zero, ← List.map_take, Bool.and_eq_true, decide_eq_true_eq, beq_iff_eq, List.prefix_iff_eq_take]
  constructor
  · rintro ⟨_, h⟩
    exact (map_cp_inj h).symm
  · intro h
    refine ⟨?_, by rw [← h]⟩
    have := congrArg List.length h
    rw [List.length_take] at this
    omega
theorem starts_tx_dec (x y : W) : Txt.startswith (tx x) (tx y) = decide (y <+: x) := by
  rw [Bool.eq_iff_iff, starts_tx, decide_eq_true_eq]
theorem lt_cps : ∀ (x y : W), ltCps (x.map cp) (y.map cp) = true ↔ lt x y
  | [], [] => by simp [ltCps, lt]
  | [], _ :: _ => by simp [ltCps, lt]
  | _ :: _, [] => by simp [ltCps, lt]
  | a :: x, b :: y => by
    rw [List.map_cons, List.map_cons, lt_cons]
    unfold ltCps
    rw [Bool.or_eq_true, Bool.and_eq_true, beq_iff_eq, decide_eq_true_eq, lt_cps x y]
    cases a <;> cases b <;> simp [cp]
theorem not_ltCps (x y : W) : ltCps (tx x).cps.toList (tx y).cps.toList = false ↔ ¬ lt x y := by
  rw [tl_tx, tl_tx, ← lt_cps x y, Bool.not_eq_true]
theorem rising_pair : ∀ {p : W} {l : List W}, risingS (tx p) (l.map tx) = true → (p :: l).Pairwise fun x y => ¬ lt y x
  | p, [], _ => by simp
  | p, a :: l, h => by
    rw [List.map_cons] at h
    unfold risingS at h
    rw [Bool.and_eq_true, Bool.not_eq_true', not_ltCps] at h
    obtain ⟨h1, h2⟩ := h
    have ih := rising_pair h2
    refine List.pairwise_cons.mpr ⟨fun y hy => ?_, ih⟩
    rcases List.mem_cons.mp hy with hy' | hy'
    · rw [hy']; exact h1
    · intro q
      by_cases e : p = a
      · rw [e] at q; exact (List.pairwise_cons.mp ih).1 y hy' q
      · exact (List.pairwise_cons.mp ih).1 y hy' (lt_trans q (lt_tri h1 e))
theorem sortedS_pair {l : List W} (h : sortedS (l.map tx) = true) : l.Pairwise fun x y => ¬ lt y x := by
  cases l with
  | nil => exact .nil
  | cons a l => exact rising_pair h
/-- what is a permutation of texts of heads is so of heads -/
theorem perm_tx {ys : List Str} {l : List W} (p : ys.Perm (l.map tx)) : ∃ m : List W, ys = m.map tx ∧ m.Perm l := by
  generalize e : l.map tx = zs at p
  induction p generalizing l with
  | nil => exact ⟨[], rfl, by rw [List.map_eq_nil_iff.mp e]⟩
  | cons x p ih =>
    cases l with
    | nil => cases e
    | cons a l =>
      rw [List.map_cons] at e
      injection e with e1 e2
      obtain ⟨m, rfl, q⟩ := ih e2
      exact ⟨a :: m, by rw [List.map_cons, e1], q.cons a⟩
  | swap x y l' =>
    match l, e with
    | a :: b :: l, e =>
      rw [List.map_cons, List.map_cons] at e
      injection e with e1 e2
      injection e2 with e2 e3
      exact ⟨b :: a :: l, by rw [List.map_cons, List.map_cons, e1, e2, e3], .swap _ _ _⟩
  | trans p1 p2 ih1 ih2 =>
    obtain ⟨m, rfl, q⟩ := ih2 e
    obtain ⟨m', e', q'⟩ := ih1 rfl
    exact ⟨m', e', q'.trans q⟩
/-- texts of heads, as values -/
def tv (x : W) : V := .str (tx x)
def tvs (l : List W) : List V := l.map tv
theorem tvs_eq (l : List W) : tvs l = (l.map tx).map V.str := by unfold tvs tv; rw [List.map_map]; rfl
theorem tv_eq {x y : W} : tv x = tv y ↔ x = y := ⟨fun h => tx_inj (V.str.inj h), fun h => by rw [h]⟩
theorem tvs_at {l : List W} {i : Nat} {x : V} (h : (tvs l)[i]? = some x) : ∃ y, l[i]? = some y ∧ x = tv y := by
  unfold tvs at h
  rw [List.getElem?_map] at h
  cases e : l[i]? with
  | none => rw [e] at h; cases h
  | some y => rw [e] at h; exact ⟨y, rfl, (Option.some.inj h).symm⟩
theorem at_tvs {l : List W} {i : Nat} {y : W} (h : l[i]? = some y) : (tvs l)[i]? = some (tv y) := by
  unfold tvs
  rw [List.getElem?_map, h]
  rfl
theorem len_tvs (l : List W) : (tvs l).length = l.length := List.length_map _
end Hs

/-! part Hr -/
namespace Hm
def cyc (r : W) : Row := fun i => r.getD (i % r.length) false
/-- a head's signs, then those of a row -/
def put (h : W) (c : Row) : Row := fun n => if n < h.length then h.getD n false else c (n - h.length)
def firstN (s : Row) (n : Nat) : W := (List.range n).map s
theorem first_len (s : Row) (n : Nat) : (firstN s n).length = n := by unfold firstN; simp
theorem first_get (s : Row) {n i : Nat} (h : i < n) : (firstN s n)[i]? = some (s i) := by
  unfold firstN
  rw [List.getElem?_map, List.getElem?_range h]
  rfl
theorem put_get {h : W} {c : Row} {i : Nat} (hi : i < h.length) : h[i]? = some (put h c i) := by
  unfold put
  rw [if_pos hi, List.getElem?_eq_getElem hi, List.getD_eq_getElem?_getD, List.getElem?_eq_getElem hi]
  rfl
theorem first_succ (s : Row) (n : Nat) : firstN s (n + 1) = s 0 :: firstN (fun i => s (i + 1)) n := by
  unfold firstN
  rw [List.range_succ_eq_map, List.map_cons, List.map_map]
  rfl
/-! ### periods -/
/-! ### plain forms -/
/-- p is the least period of c -/
def Least (c : Row) (p : Nat) : Prop := (∀ i, c (i + p) = c i) ∧ ∀ d, 0 < d → d < p → ∃ i, c (i + d) ≠ c i
structure Red (h r : W) : Prop where
  ne : r ≠ []
  le : Least (cyc r) r.length
  la : h = [] ∨ h.getLast? ≠ r.getLast?
/-! ### the shortest ring -/
end Hm

/-! part Rl -/
set_option Elab.async false
set_option linter.all false
set_option maxRecDepth 100000
namespace Hs
open PySem PySem.Spec PyProof.Rows L2 Hm
section
variable {X : Cx}
/-- x.strip(chars) -/
theorem mt_stripC : MtR X "str.strip" (fun x xs H Q => ∃ a b, x = .str a ∧ xs = [.str b] ∧ a.length ≤ sizeLine ∧ Q (.str (Txt.stripChars a b)) H) := by
  intro pins s σ H x xs v us Q I rx rs h
  obtain ⟨a, b, rfl, rfl, hz, q⟩ := h
  obtain ⟨t, rfl⟩ := rx
  cases rs with
  | cons r1 rs =>
    cases rs
    obtain ⟨u, rfl⟩ := r1
    exact SC.stripChars (fun t' k => ⟨.str _, H, I.tok k, ⟨_, rfl⟩, q⟩) hz
/-- x.find(y, i) -/
theorem mt_find3 : MtR X "str.find" (fun x xs H Q => ∃ a b i, x = .str a ∧ xs = [.str b, .int i] ∧ Q (.int (Txt.find3 a b i)) H) := by
  intro pins s σ H x xs v us Q I rx rs h
  obtain ⟨a, b, i, rfl, rfl, q⟩ := h
  obtain ⟨t, rfl⟩ := rx
  cases rs with
  | cons r1 rs =>
    cases rs with
    | cons r2 rs =>
      cases rs
      obtain ⟨u, rfl⟩ := r1
      obtain ⟨w, rfl⟩ := r2
      exact SC.find3 ⟨.int _, H, I.tok _, ⟨_, rfl⟩, q⟩
/-- == of two instances of one class by its own __eq__ -/
theorem op_eqI {C f : Addr} {fd : FuncData} {k : Nat} {sp : Sp} {ps : List Str} (m : Meth X.K C "__eq__" f) (F : FnOk X.prog X.w X.K X.mg X.base CX0 k f fd ps sp) (hr : Room k X.A) (hb : Binds X.K fd ps []) (c : Cls X.K C) :
    OpR X (compareOp .Eq) (fun x y H Q => ∃ a b dx fs dx' fs', x = .ref a ∧ y = .ref b ∧ H a = some (.ins C dx fs) ∧ H b = some (.ins C dx' fs') ∧ sp [x, y] H (fun v H' => (∃ c, v = .bl c) ∧ Q v H') E0) := by
  intro pins s σ H x y v u Q I rx ry h
  obtain ⟨a, b, dx, fs, dx', fs', rfl, rfl, ha, hb', q⟩ := h
  cases rx
  cases ry
  obtain ⟨mA, O, _⟩ := ins_get I.hok ha
  obtain ⟨od, J, _⟩ := O.look
  obtain ⟨mB, O', _⟩ := ins_get I.hok hb'
  obtain ⟨od', J', _⟩ := O'.look
  obtain ⟨mf, F1⟩ := I.fr
  refine PySem.W.cmp_K (op := .Eq) hr.units0 F1 I.ok.mod.kin J J'.type ?_ m.at_ m.fn ?_
  · unfold PySem.W.notFirst; simp
  refine thn (run_fn (us := [.ref a, .ref b]) (vs := [.ref a, .ref b]) F hr hb .nil pass0 I (.cons rfl (.cons rfl .nil)) q) fun v s1 ⟨x, H1, I1, r1, ⟨c1, e1⟩, q1⟩ => ?_
  subst e1
  cases r1
  exact ⟨.bl c1, H1, I1, rfl, q1⟩
end
/-! ### texts -/
theorem cps01 : (("01" : Str)).cps.toList = [48, 49] := TL.tl_ofString "01"
theorem goes01 (c : Nat) : (("01" : Str)).cps.contains c = true ↔ c = 48 ∨ c = 49 := by
  rw [← Array.contains_toList, cps01]
  simp
theorem cpsE : (("" : Str)).cps.toList = [] := TL.tl_ofString ""
theorem takeWhile_full {α : Type} {p : α → Bool} : ∀ {l : List α}, (l.takeWhile p).length = l.length → ∀ x ∈ l, p x = true
  | [], _, x, hx => by cases hx
  | a :: l, h, x, hx => by
    rw [List.takeWhile_cons] at h
    by_cases ha : p a = true
    · rw [if_pos ha] at h
      rcases List.mem_cons.mp hx with e | hx
      · rw [e]; exact ha
      · exact takeWhile_full (by simpa using h) x hx
    · rw [if_neg ha] at h; simp at h
theorem takeWhile_self {α : Type} {p : α → Bool} : ∀ {l : List α}, (∀ x ∈ l, p x = true) → l.takeWhile p = l
  | [], _ => rfl
  | a :: l, h => by rw [List.takeWhile_cons, if_pos (h a (.head _)), takeWhile_self fun x hx => h x (.tail _ hx)]
theorem takeWhile_drop {α : Type} {p : α → Bool} : ∀ {l : List α}, (l.takeWhile p).length = l.length ∨ ∃ c r, l.drop (l.takeWhile p).length = c :: r ∧ p c = false
  | [] => .inl rfl
  | a :: l => by
    rw [List.takeWhile_cons]
    by_cases ha : p a = true
    · rw [if_pos ha]
      rcases takeWhile_drop (p := p) (l := l) with h | ⟨c, r, h1, h2⟩
      · exact .inl (by simp [h])
      · exact .inr ⟨c, r, by simpa using h1, h2⟩
    · rw [if_neg ha]
      exact .inr ⟨a, l, rfl, by simpa using ha⟩
/-- nothing is left of a text just where each of its signs is 0 or 1 -/
theorem strip_iff (a : Str) : Txt.stripChars a ("01" : Str) = ("" : Str) ↔ ∀ c ∈ a.cps.toList, c = 48 ∨ c = 49 := by
  have al : a.length = a.cps.toList.length := by simp [Str.length]
  have key : Txt.stripChars a ("01" : Str) = ("" : Str) ↔ (a.cps.toList.drop ((a.cps.toList.takeWhile (("01" : Str)).cps.contains).length)).take ((a.cps.toList.length - ((a.cps.toList.drop ((a.cps.toList.takeWhile (("01" : Str)).cps.contains).length)).reverse.takeWhile (("01" : Str)).cps.contains).length) - (a.cps.toList.takeWhile (("01" : Str)).cps.contains).length) = [] := by
    have e : (Txt.stripChars a ("01" : Str)).cps.toList = (a.cps.toList.drop ((a.cps.toList.takeWhile (("01" : Str)).cps.contains).length)).take ((a.cps.toList.length - ((a.cps.toList.drop ((a.cps.toList.takeWhile (("01" : Str)).cps.contains).length)).reverse.takeWhile (("01" : Str)).cps.contains).length) - (a.cps.toList.takeWhile (("01" : Str)).cps.contains).length) := by
      unfold Txt.stripChars
      rw [stripBy_eq, StrLaws.strSub_toList, ← al]
      rfl
    rw [← e]
    constructor
    · intro h; rw [h, cpsE]
    · intro h; exact str_ext (by rw [h, cpsE])
  rw [key]
  generalize a.cps.toList = l
  constructor
  · intro h
    rcases takeWhile_drop (p := (("01" : Str)).cps.contains) (l := l) with q | ⟨c, r, h1, h2⟩
    · exact fun c hc => (goes01 c).mp (takeWhile_full q c hc)
    · exfalso
      rw [h1] at h
      have hlen : l.length = (l.takeWhile (("01" : Str)).cps.contains).length + (r.length + 1) := by
        have := congrArg List.length h1
        rw [List.length_drop, List.length_cons] at this
        omega
      have hk : ((c :: r).reverse.takeWhile (("01" : Str)).cps.contains).length ≤ r.length := by
        have hle : ((c :: r).reverse.takeWhile (("01" : Str)).cps.contains).length ≤ (c :: r).reverse.length := (List.takeWhile_sublist _).length_le
        rw [List.length_reverse, List.length_cons] at hle
        refine Nat.le_of_lt_succ (Nat.lt_of_le_of_ne hle fun z => ?_)
        have := takeWhile_full (l := (c :: r).reverse) (by rw [z, List.length_reverse, List.length_cons]) c (by simp)
        rw [this] at h2; cases h2
      have := congrArg List.length h
      rw [List.length_take, List.length_cons, List.length_nil] at this
      omega
  · intro h
    have e : l.takeWhile (("01" : Str)).cps.contains = l := takeWhile_self fun c hc => (goes01 c).mpr (h c hc)
    rw [e, List.drop_length, List.take_nil]
theorem strip_tx (x : W) : Txt.stripChars (tx x) ("01" : Str) = ("" : Str) := (strip_iff _).mpr fun c hc => by
  rw [tl_tx] at hc
  obtain ⟨b, _, rfl⟩ := List.mem_map.mp hc
  cases b
  · exact .inl rfl
  · exact .inr rfl
end Hs
namespace Hs
open PySem PySem.Spec PyProof.Rows L2 Hm
theorem occ_full (s sub : Str) (hi : Nat) : ∀ (l : List Nat) (st : Array Nat × Nat), st.fst.size = 1 → (forIn l st (StrLaws.occBody s sub hi 1)).run.fst = st.fst
  | [], st, _ => rfl
  | a :: l, st, h => by
    rw [List.forIn_cons]
    unfold StrLaws.occBody
    rw [if_neg (by rw [h]; rintro ⟨⟨⟨q, _⟩, _⟩, _⟩; exact absurd q (by decide))]
    exact occ_full s sub hi l (st.fst, st.snd) h
theorem occ_first (s sub : Str) (hi d : Nat) (post : List Nat) : ∀ (pr : List Nat) (free : Nat), (∀ i ∈ pr, ¬ (i + sub.length ≤ hi ∧ Builtin.Str.subAt s sub i = true)) → free ≤ d → (d + sub.length ≤ hi ∧ Builtin.Str.subAt s sub d = true) →
    (forIn (pr ++ d :: post) ((#[] : Array Nat), free) (StrLaws.occBody s sub hi 1)).run.fst = #[d]
  | [], free, _, hf, hd => by
    rw [List.nil_append, List.forIn_cons]
    unfold StrLaws.occBody
    rw [if_pos ⟨⟨⟨by simp, hf⟩, hd.1⟩, hd.2⟩]
    exact occ_full s sub hi post (#[d], d + sub.length) rfl
  | a :: pr, free, h, hf, hd => by
    rw [List.cons_append, List.forIn_cons]
    unfold StrLaws.occBody
    rw [if_neg (fun q => h a (.head _) ⟨q.1.2, q.2⟩)]
    exact occ_first s sub hi d post pr free (fun i hi' => h i (.tail _ hi')) hf hd
theorem least_ex {p : Nat → Prop} : ∀ n, p n → ∃ d, d ≤ n ∧ p d ∧ ∀ j, j < d → ¬ p j := by
  intro n
  induction n using Nat.strongRecOn with
  | ind n ih =>
    intro hn
    by_cases h : ∃ j, j < n ∧ p j
    · obtain ⟨j, hj, pj⟩ := h
      obtain ⟨d, h1, h2, h3⟩ := ih j hj pj
      exact ⟨d, by omega, h2, h3⟩
    · exact ⟨n, Nat.le_refl _, hn, fun j hj pj => h ⟨j, hj, pj⟩⟩
end Hs

/-! part Sx -/
set_option Elab.async false
set_option linter.all false
set_option maxRecDepth 100000
namespace Hs
open PySem L2 Hm
/-- one text begins with another -/
theorem starts_iff (a b : Str) : Txt.startswith a b = true ↔ b.cps.toList <+: a.cps.toList := by
  unfold Txt.startswith
  rw [StrLaws.subAt_eq, List.drop_zero, Bool.and_eq_true, decide_eq_true_eq, beq_iff_eq, List.prefix_iff_eq_take]
  have la : a.length = a.cps.toList.length := by simp [Str.length]
  have lb : b.length = b.cps.toList.length := by simp [Str.length]
  rw [la, lb]
  constructor
  · rintro ⟨_, h⟩
    exact h.symm
  · intro h
    refine ⟨?_, h.symm⟩
    have := congrArg List.length h
    rw [List.length_take] at this
    omega
/-- neither text begins with the other -/
def apt (a b : Str) : Bool := !decide (b.cps.toList <+: a.cps.toList) && !decide (a.cps.toList <+: b.cps.toList)
theorem starts_dec (a b : Str) : Txt.startswith a b = decide (b.cps.toList <+: a.cps.toList) := by
  rw [Bool.eq_iff_iff, starts_iff, decide_eq_true_eq]
section
variable {X : Cx}
end
/-- no exception comes -/
theorem passX {P : Program} {w : World} {X : Cx} : Passes (CXE P w) X E0 := fun _ _ _ _ _ _ _ ⟨_, _, _, _, _, _, _, _, _, _, q⟩ => q.elim
end Hs

/-! part Hp -/
namespace Hs
open PySem L2 Hm
/-! ### the least period divides the ring's length -/
end Hs

/-! part Ro -/
set_option Elab.async false
set_option linter.all false
set_option maxRecDepth 100000
namespace Hs
open PySem L2 Hm
section
variable {X : Cx} {C f : Addr} {fd : FuncData} {k : Nat} {sp : Sp} {ps : List Str}
/-- a method run a little deeper -/
theorem run_in {pins : List (Addr × Obj)} {σ : St} {H : Hp} {s : Shared} {Q : VK} {us : List Value} {vs : List V} {A : Around} (F : FnOk X.prog X.w X.K X.mg X.base CX0 k f fd ps sp) (hr : Room k A) (hA : A.frames = X.A.frames) (hb : Binds X.K fd ps [])
    (I : Inv X pins σ H s) (r : Vals vs us) (h : sp vs H Q E0) {E : Value → Shared → Prop} : wpAny (model X.prog X.w) A (call (.ref f) us) (EP X pins σ Q) E s := by
  have hl : us.length = ps.length := by rw [← r.length]; exact F.len _ _ _ _ h
  have e0 := I.env0
  have e1 : Env0 X.prog X.w X.K X.mg X.base A X.stack s H := ⟨hA.trans e0.frames, e0.mod, e0.bs, e0.bsz, e0.funs, e0.frf, e0.hok, e0.bare⟩
  have hb' := hb s us I.kIn (by rw [List.append_nil]; exact hl)
  rw [List.append_nil] at hb'
  refine wpAny_call (codeAny_mono (F.run A X.stack s H ⟨us, []⟩ us vs Q E0 hr e1 hb' r h) fun r s' hq => ?_)
  cases r with
  | error e => exact hq.elim
  | ok fl =>
    cases fl with
    | ret u => exact I.after hq
    | next => exact False.elim hq
    | brk => exact False.elim hq
    | cont => exact False.elim hq
end
end Hs

/-! part Rd -/
set_option Elab.async false
set_option linter.all false
set_option maxRecDepth 100000
namespace Hs
open PySem L2 Hm
/-- two texts as data -/
def d2 (a b : Str) : PyData := .tuple [.str a, .str b]
theorem eqv_d2 (a b c d : Str) : PyData.eqv (d2 a b) (d2 c d) = ((a == c) && (b == d)) := by
  show ((a == c) && ((b == d) && true)) = _
  rw [Bool.and_true]
theorem eqv_d2W (a b c d : W) : PyData.eqv (d2 (tx a) (tx b)) (d2 (tx c) (tx d)) = decide (a = c ∧ b = d) := by
  rw [eqv_d2, Bool.eq_iff_iff, Bool.and_eq_true, beq_iff_eq, beq_iff_eq, decide_eq_true_eq]
  exact ⟨fun z => ⟨tx_inj z.1, tx_inj z.2⟩, fun z => ⟨congrArg tx z.1, congrArg tx z.2⟩⟩
theorem dp_d2 {K : PySem.W.Frag} {H : Hp} {p : Addr} {a b : Str} (h : H p = some (.tup [.str a, .str b])) : Dp K H (.ref p) (d2 a b) := .tup (SqT.of h) (.cons (.str _) (.cons (.str _) .nil))
theorem strOk_tx' (x : W) : PyData.strOk (tx x) = true := by
  unfold PyData.strOk
  rw [Array.all_eq_true_iff_forall_mem]
  intro c hc
  have hc : c ∈ x.map cp := by simpa [tx] using hc
  obtain ⟨b, _, rfl⟩ := List.mem_map.mp hc
  cases b <;> decide
theorem shaped_d2 (a b : W) : SeqAt.shaped (d2 (tx a) (tx b)) = true := by
  unfold SeqAt.shaped
  rw [Bool.and_eq_true]
  refine ⟨?_, decide_eq_true (show (max 0 (max 0 0)) + 1 ≤ 64 by decide)⟩
  show (PyData.strOk (tx a) && (PyData.strOk (tx b) && true)) = true
  rw [strOk_tx', strOk_tx']; rfl
/-! rows told otherwise -/
theorem put_app (a b : W) (c : Row) (n : Nat) : put (a ++ b) c n = put a (put b c) n := by
  unfold put
  rw [List.length_append]
  by_cases h : n < a.length
  · rw [if_pos (by omega), if_pos h, List.getD_eq_getElem?_getD, List.getD_eq_getElem?_getD, List.getElem?_append_left h]
  · rw [if_neg h]
    by_cases h2 : n < a.length + b.length
    · rw [if_pos h2, if_pos (by omega), List.getD_eq_getElem?_getD, List.getD_eq_getElem?_getD, List.getElem?_append_right (by omega)]
    · rw [if_neg h2, if_neg (by omega), Nat.sub_sub]
end Hs

/-! part St -/
set_option Elab.async false
set_option linter.all false
set_option maxRecDepth 100000
namespace Hs
open PySem PySem.Spec PyProof.Rows L2 Hm
/-! ### sorted(xs) of a list of pairs (a text, a number or a text) -/
abbrev IK := Int ⊕ List Nat
/-- what a value is sorted by -/
def vkey : V → Option IK
  | .int n => some (.inl n)
  | .str x => some (.inr x.cps.toList)
  | _ => none
/-- the pairs are in order -/
def KeyLe (k l : List IK) : Prop := lexLt itemOrd l k = false
/-- a pair at p and its key -/
def PairAt (H : Hp) (b : Bool) (p : Addr) (k : List IK) : Prop := ∃ (x : Str) (v : V) (i : IK), H p = some (.tup [.str x, v]) ∧ vkey v = some i ∧ k = [.inr x.cps.toList, i] ∧ (match i with | .inl _ => b = false | .inr _ => b = true)
def shp (b : Bool) : Nat → Bool := fun i => if i = 0 then true else b
def rSortedT (K : PySem.W.Frag) : List V → Hp → VK → Prop := fun vs H Q => ∃ (a : Addr) (ps : List Addr) (key : Addr → List IK) (b : Bool), vs = [V.ref a] ∧ SqL K H a (ps.map V.ref) ∧ ps.length ≤ 1000 ∧ (∀ p ∈ ps, PairAt H b p (key p)) ∧
  ∀ (ps' : List Addr) (q : Addr), ps'.Perm ps → ps'.Pairwise (fun p r => KeyLe (key p) (key r)) → H q = none → Q (.ref q) (upd H q (.lst (ps'.map V.ref)))
theorem vals_refs : ∀ {ps : List Addr} {its : List Value}, Vals (ps.map V.ref) its → its = ps.map Value.ref
  | [], _, .nil => rfl
  | p :: ps, _, .cons r rs => by
    cases r
    rw [List.map_cons, vals_refs rs]
theorem vals_of_refs : ∀ (ps : List Addr), Vals (ps.map V.ref) (ps.map Value.ref)
  | [] => .nil
  | p :: ps => .cons rfl (vals_of_refs ps)
theorem perm_refs {ys : List Value} {ps : List Addr} (p : ys.Perm (ps.map Value.ref)) : ∃ qs : List Addr, ys = qs.map Value.ref ∧ qs.Perm ps := by
  generalize e : ps.map Value.ref = zs at p
  induction p generalizing ps with
  | nil => exact ⟨[], rfl, by rw [List.map_eq_nil_iff.mp e]⟩
  | cons x p ih =>
    cases ps with
    | nil => cases e
    | cons a l =>
      rw [List.map_cons] at e
      injection e with e1 e2
      obtain ⟨m, rfl, q⟩ := ih e2
      exact ⟨a :: m, by rw [List.map_cons, e1], q.cons a⟩
  | swap x y l' =>
    match ps, e with
    | a :: b :: l, e =>
      rw [List.map_cons, List.map_cons] at e
      injection e with e1 e2
      injection e2 with e2 e3
      exact ⟨b :: a :: l, by rw [List.map_cons, List.map_cons, e1, e2, e3], .swap _ _ _⟩
  | trans p1 p2 ih1 ih2 =>
    obtain ⟨m, rfl, q⟩ := ih2 e
    obtain ⟨m', e', q'⟩ := ih1 rfl
    exact ⟨m', e', q'.trans q⟩
theorem zip_snd {α : Type} : ∀ (l : List α), (l.zip l).map (·.2) = l
  | [] => rfl
  | a :: l => by rw [List.zip_cons_cons, List.map_cons, zip_snd l]
section
variable {X : Cx} {pins : List (Addr × Obj)} {σ : L2.St} {H : Hp} {s : Shared}
theorem pair_key (I : Inv X pins σ H s) {b : Bool} {p : Addr} {k : List IK} (h : PairAt H b p k) : G.tupKeyC s.heap (shp b) (.ref p) = some k ∧ ∃ f, TupOf s.heap (shp b) (.ref p) f := by
  obtain ⟨x, v, i, hp, hv, rfl, hb⟩ := h
  obtain ⟨_, its, rv, o, ho, hc, n, hd⟩ := I.hok p _ hp
  cases rv with
  | cons r1 rv =>
    cases rv with
    | cons r2 rv =>
      cases rv
      rename_i u1 u2
      obtain ⟨t1, rfl⟩ := r1
      have it : tupItems (shp b) 0 [.str x t1, u2] = some [.inr x.cps.toList, i] := by
        cases v with
        | int m =>
          obtain ⟨t2, rfl⟩ := r2
          cases hv
          have hb : b = false := hb
          subst hb
          rfl
        | str y =>
          obtain ⟨t2, rfl⟩ := r2
          cases hv
          have hb : b = true := hb
          subst hb
          rfl
        | _ => cases hv
      refine ⟨?_, .str x t1, p, o, _, n, rfl, ho, hc, hd, rfl, fun e => Bool.noConfusion (show true = false from e), fun _ => ⟨_, _, rfl⟩⟩
      unfold G.tupKeyC
      have e1 : G.isTupObj s.heap (.ref p) = true := by unfold G.isTupObj; simp only [ho, hc]; rfl
      rw [if_pos e1]
      unfold tupKey
      simp only [ho, hd]
      exact it
theorem tups_of (I : Inv X pins σ H s) {b : Bool} {key : Addr → List IK} : ∀ {ps : List Addr}, (∀ p ∈ ps, PairAt H b p (key p)) → ∃ fs, TupsOf s.heap (shp b) (ps.map Value.ref) fs
  | [], _ => ⟨[], .nil⟩
  | p :: ps, h => by
    obtain ⟨f, hf⟩ := (pair_key I (h p (.head _))).2
    obtain ⟨fs, hfs⟩ := tups_of I fun q hq => h q (.tail _ hq)
    exact ⟨f :: fs, .cons hf hfs⟩
end
section
variable {X : Cx}
theorem cr_sortedT : CallR X (.builtin "sorted") (rSortedT X.K) := by
  intro pins s σ H vs us Q I r h
  obtain ⟨a, ps, key, b, rfl, hs, hl, hk, q⟩ := h
  obtain ⟨its, rv, hli, _⟩ := I.list hs
  rw [Vals.ref1 r]
  obtain rfl := vals_refs rv
  obtain ⟨fs, ht⟩ := tups_of I hk
  have hL : (ps.map Value.ref).length ≤ sizeLine := by rw [List.length_map]; exact Nat.le_trans hl (by decide)
  refine G.sorted_tups hli.isList ht (fun v hv => ?_) hL fun st' pm so _ => ?_
  · obtain ⟨p, hp, rfl⟩ := List.mem_map.mp hv
    exact ⟨_, (pair_key I (hk p hp)).1⟩
  · have hl' : (arrOf st').toList.Perm ((ps.map Value.ref).zip (ps.map Value.ref)) := by
      rw [← pairsOf_toList]
      exact Array.perm_iff_toList_perm.mp pm
    obtain ⟨ps', e1, p1⟩ := perm_refs ((hl'.map (·.2)).trans (by rw [zip_snd]))
    obtain ⟨ep, he'⟩ := sortedAll_at s.heap (ps.map Value.ref) ((arrOf st').map (·.2))
    have eo : ((arrOf st').map (·.2)).toList = ps'.map Value.ref := by rw [Array.toList_map]; exact e1
    have hlen : (ps'.map V.ref).length ≤ sizeLine := by rw [List.length_map, p1.length_eq]; exact Nat.le_trans hl (by decide)
    refine ⟨.ref _, upd H (s.heap.objs.size + 1) (.lst (ps'.map V.ref)), I.laid (t' := s.toks) (fun _ _ => sortedAll_old) (Nat.le_succ _) ⟨hlen, ps'.map Value.ref, ep, vals_of_refs ps', ?_⟩, rfl, q ps' _ p1 ?_ (I.hok.fresh (Nat.le_succ _))⟩
    · rw [he', ← eo]
    · rw [List.pairwise_iff_getElem]
      intro i j hi hj hij
      have hmem : ∀ p ∈ (arrOf st').toList, p.1 = p.2 := fun p hp => (mem_zip_self (hl'.mem_iff.mp hp)).1
      have at_ : ∀ (k : Nat) (h : k < ps'.length), KK (G.tupKindC s.heap (shp b)) (arrOf st') k = key ps'[k] := fun k h => by
        have h2 : ((arrOf st').toList.map (·.2))[k]? = some (Value.ref ps'[k]) := by rw [e1, List.getElem?_map, List.getElem?_eq_getElem h]; rfl
        rw [List.getElem?_map, Option.map_eq_some_iff] at h2
        obtain ⟨p, hp, e2⟩ := h2
        have e3 := hmem p (List.mem_of_getElem? hp)
        unfold KK
        have hp' : (arrOf st')[k]? = some p := by rw [← Array.getElem?_toList]; exact hp
        rw [hp']
        show ((G.tupKeyC s.heap (shp b) p.1)).getD _ = _
        rw [e3, e2, (pair_key I (hk _ (p1.mem_iff.mp (List.getElem_mem h)))).1]
        rfl
      have hsz : j < (pairsOf (ps.map Value.ref)).size := by
        rw [pairsOf_size, List.length_map, ← p1.length_eq]; exact hj
      have := so i j (Nat.le_of_lt hij) hsz
      rw [at_ i hi, at_ j hj] at this
      exact this
end
end Hs

/-! part Zx -/
set_option Elab.async false
set_option linter.all false
set_option maxRecDepth 100000
namespace Hs
open PySem PySem.Spec PyProof.Rows L2 Hm
section
variable {X : Cx}
/-- x.rstrip(chars) -/
theorem mt_rstripC : MtR X "str.rstrip" (fun x xs H Q => ∃ a b, x = .str a ∧ xs = [.str b] ∧ a.length ≤ sizeLine ∧ Q (.str (Txt.rstripChars a b)) H) := by
  intro pins s σ H x xs v us Q I rx rs h
  obtain ⟨a, b, rfl, rfl, hz, q⟩ := h
  obtain ⟨t, rfl⟩ := rx
  cases rs with
  | cons r1 rs =>
    cases rs
    obtain ⟨u, rfl⟩ := r1
    exact SC.rstripChars (fun t' k => ⟨.str _, H, I.tok k, ⟨_, rfl⟩, q⟩) hz
end
/-! ### loops over zip and enumerate -/
theorem for_zip {K : PySem.W.Frag} {a b : Addr} {xs ys : List V} {g : TG} {tb : TS} {D : Ends} {σ : L2.St} {H : Hp} (Pv : Nat → L2.St → Hp → Prop) (h0 : Pv 0 σ H) (hl : ∀ i σ H, Pv i σ H → SqL K H a xs ∧ SqL K H b ys)
    (hs : ∀ i x y σ H T, xs[i]? = some x → ys[i]? = some y → H T = none → Pv i σ H → g (.ref T) σ (upd H T (.tup [x, y])) fun σ2 H2 => tb { D with nx := Pv (i + 1), ct := Pv (i + 1), bk := D.nx } σ2 H2) (hd : ∀ σ H, Pv (min xs.length ys.length) σ H → D.nx σ H) :
    ∃ W : Nat → Nat → L2.St → Hp → Prop, (∃ m, W 0 m σ H) ∧ ∀ i m σ H, W i m σ H →
      ((Itz K a b).stop i H ∧ D.nx σ H) ∨ ((Itz K a b).go i H ∧ ∃ N : L2.St → Hp → Prop, (∀ σ' H', N σ' H' → ∃ m', m' < m ∧ W (i + 1) m' σ' H') ∧ ∀ x H', (Itz K a b).yld i H x H' → g x σ H' fun σ2 H2 => tb { D with nx := N, ct := N, bk := D.nx } σ2 H2) := by
  refine ⟨fun i m σ H => m = min xs.length ys.length - i ∧ i ≤ min xs.length ys.length ∧ Pv i σ H, ⟨_, rfl, Nat.zero_le _, h0⟩, ?_⟩
  rintro i m σ H ⟨rfl, hi, p⟩
  obtain ⟨q1, q2⟩ := hl i σ H p
  by_cases hlt : i < min xs.length ys.length
  · have h1 : i < xs.length := by omega
    have h2 : i < ys.length := by omega
    refine .inr ⟨⟨xs, ys, xs[i], ys[i], q1, q2, by simp [h1], by simp [h2]⟩, Pv (i + 1), fun σ' H' p' => ⟨_, by omega, rfl, hlt, p'⟩, fun x H' y => ?_⟩
    obtain ⟨T, x', y', rfl, hT, rfl, hx, hy⟩ := y
    exact hs i x' y' σ H T (hx xs q1) (hy ys q2) hT p
  · have e : i = min xs.length ys.length := by omega
    rw [e] at p ⊢
    exact .inl ⟨⟨xs, ys, (hl _ _ _ p).1, (hl _ _ _ p).2, by omega⟩, hd σ H p⟩
theorem lc_enum {K : PySem.W.Frag} {a : Addr} {xs : List V} {g : TG} {tt : TT} {te : TE} {vs : List Nat} {σ : L2.St} {H1 : Hp} {D : Addr} {Qd : Hp → Prop} (Pv : Nat → Hp → Prop) (h0 : Pv 0 (upd H1 D (.lst []))) (hl : ∀ i H, Pv i H → SqL K H a xs)
    (hs : ∀ i x H T, xs[i]? = some x → H T = none → Pv i H → g (.ref T) (wipe σ vs) (upd H T (.tup [.int (i : Nat), x])) fun σ2 H2 => wipe σ2 vs = wipe σ vs ∧ tt σ2 H2 fun b H3 =>
      if b = true then te σ2 H3 fun y H4 => ∃ acc, H4 D = some (.lst acc) ∧ acc.length < sizeLine ∧ Pv (i + 1) (upd H4 D (.lst (acc ++ [y]))) else Pv (i + 1) H3) (hd : ∀ H, Pv xs.length H → Qd H) :
    ∃ W : Nat → Nat → Hp → Prop, (∃ m, W 0 m (upd H1 D (.lst []))) ∧ ∀ i m H, W i m H →
      ((Ite K a).stop i H ∧ Qd H) ∨ ((Ite K a).go i H ∧ ∃ Nx : Hp → Prop, (∀ H', Nx H' → ∃ m', m' < m ∧ W (i + 1) m' H') ∧ ∀ x H', (Ite K a).yld i H x H' → g x (wipe σ vs) H' fun σ2 H2 => wipe σ2 vs = wipe σ vs ∧ tt σ2 H2 fun b H3 =>
        if b = true then te σ2 H3 fun y H4 => ∃ acc, H4 D = some (.lst acc) ∧ acc.length < sizeLine ∧ Nx (upd H4 D (.lst (acc ++ [y]))) else Nx H3) := by
  refine ⟨fun i m H => m = xs.length - i ∧ i ≤ xs.length ∧ Pv i H, ⟨_, rfl, Nat.zero_le _, h0⟩, ?_⟩
  rintro i m H ⟨rfl, hi, p⟩
  have q1 := hl i H p
  by_cases hlt : i < xs.length
  · refine .inr ⟨⟨xs, xs[i], q1, by simp [hlt]⟩, Pv (i + 1), fun H' p' => ⟨_, by omega, rfl, hlt, p'⟩, fun x H' y => ?_⟩
    obtain ⟨T, x', rfl, hT, rfl, hx⟩ := y
    exact hs i x' H T (hx xs q1) hT p
  · have e : i = xs.length := by omega
    subst e
    exact .inl ⟨⟨xs, hl _ _ p, Nat.le_refl _⟩, hd H p⟩
/-! ### texts -/
/-- what is left of a head without the ones at its end -/
def stem (x : W) : W := x.take (x.length - (x.reverse.takeWhile id).length)
theorem cps1 : (("1" : Str)).cps.toList = [49] := TL.tl_ofString "1"
theorem cps1e : (("1" : Str)).cps = #[49] := Array.ext' cps1
theorem tw_map (x : W) : ((x.map cp).takeWhile (("1" : Str)).cps.contains).length = (x.takeWhile id).length := by
  induction x with
  | nil => rfl
  | cons b x ih =>
    rw [List.map_cons, List.takeWhile_cons, List.takeWhile_cons]
    cases b with
    | false =>
      have e : (("1" : Str)).cps.contains (cp false) = false := by rw [cps1e]; simp [cp]
      rw [e]
      rfl
    | true =>
      have e : (("1" : Str)).cps.contains (cp true) = true := by rw [cps1e]; simp [cp]
      rw [e]
      show (_ :: _).length = (_ :: _).length
      rw [List.length_cons, List.length_cons, ih]
theorem rstrip_tx (x : W) : Txt.rstripChars (tx x) ("1" : Str) = tx (stem x) := by
  refine str_ext ?_
  unfold Txt.rstripChars
  rw [stripBy_eq, StrLaws.strSub_toList]
  show ((tx x).cps.toList.drop 0).take (((tx x).length - (((tx x).cps.toList.drop 0).reverse.takeWhile (("1" : Str)).cps.contains).length) - 0) = _
  rw [List.drop_zero, tl_tx, tl_tx, tx_len, ← List.map_reverse, tw_map, ← List.map_take, Nat.sub_zero]
  rfl
theorem occ_none (s sub : Str) (hi : Nat) : ∀ (l : List Nat) (free : Nat), (∀ i ∈ l, ¬ (i + sub.length ≤ hi ∧ Builtin.Str.subAt s sub i = true)) → (forIn l ((#[] : Array Nat), free) (StrLaws.occBody s sub hi 1)).run.fst = #[]
  | [], free, _ => rfl
  | a :: l, free, h => by
    rw [List.forIn_cons]
    unfold StrLaws.occBody
    rw [if_neg (fun q => h a (.head _) ⟨q.1.2, q.2⟩)]
    exact occ_none s sub hi l free fun i hi' => h i (.tail _ hi')
theorem sub_one (h : W) (i : Nat) : (i + (("1" : Str)).length ≤ (tx h).length ∧ Builtin.Str.subAt (tx h) ("1" : Str) i = true) ↔ h[i]? = some true := by
  rw [← tx_1, StrLaws.subAt_eq, tl_tx, tl_tx, tx_len, tx_len, ← List.map_drop, ← List.map_take, beq_iff_eq]
  constructor
  · rintro ⟨h1, h2⟩
    have h2 := map_cp_inj h2
    have h1 : i < h.length := h1
    rw [List.getElem?_eq_getElem h1]
    rw [← List.getElem_cons_drop h1] at h2
    have h3 : h[i] :: List.take 0 (h.drop (i + 1)) = [true] := h2
    injection h3 with h3
    rw [h3]
  · intro e
    obtain ⟨h1, h2⟩ := List.getElem?_eq_some_iff.mp e
    refine ⟨h1, ?_⟩
    rw [← List.getElem_cons_drop h1, h2]
    simp
theorem find_one {h : W} {n : Nat} (hn : n ≤ h.length) : (∃ d : Nat, n ≤ d ∧ d < h.length ∧ h[d]? = some true ∧ (∀ j, n ≤ j → j < d → h[j]? = some false) ∧ Txt.find3 (tx h) ("1" : Str) (n : Int) = (d : Int)) ∨
    ((∀ j, n ≤ j → j < h.length → h[j]? = some false) ∧ Txt.find3 (tx h) ("1" : Str) (n : Int) = -1) := by
  have no : ∀ j, j < h.length → h[j]? ≠ some true → h[j]? = some false := fun j hj q => by
    rw [List.getElem?_eq_getElem hj] at q ⊢
    cases e : h[j] with
    | false => rfl
    | true => rw [e] at q; exact absurd rfl q
  have hfrom : fromIndex (tx h).length (n : Int) = n := by
    unfold fromIndex
    rw [if_neg (by omega)]
    omega
  by_cases ex : ∃ d, n ≤ d ∧ h[d]? = some true
  · obtain ⟨d0, h0⟩ := ex
    obtain ⟨d, _, ⟨h2, h3⟩, h4⟩ := least_ex (p := fun j => n ≤ j ∧ h[j]? = some true) d0 h0
    have hd : d < h.length := (List.getElem?_eq_some_iff.mp h3).1
    refine .inl ⟨d, h2, hd, h3, fun j hj hjd => no j (by omega) fun q => h4 j hjd ⟨hj, q⟩, ?_⟩
    have hrange : List.range' n ((tx h).length + 1 - n) = List.range' n (d - n) ++ d :: List.range' (d + 1) (h.length - d) := by
      have e1 : (tx h).length + 1 - n = (d - n) + ((h.length - d) + 1) := by rw [tx_len]; omega
      rw [e1, ← List.range'_append, List.range'_succ]
      have e2 : n + 1 * (d - n) = d := by omega
      rw [e2]
    unfold Txt.find3
    rw [hfrom, StrLaws.occ_eq, hrange, occ_first (tx h) ("1" : Str) _ d _ _ n (fun i hi => ?_) h2 ((sub_one h d).mpr h3)]
    obtain ⟨k, hk, rfl⟩ := List.mem_range'.mp hi
    exact fun q => h4 (n + 1 * k) (by omega) ⟨by omega, (sub_one h _).mp q⟩
  · refine .inr ⟨fun j hj hjl => no j hjl fun q => ex ⟨j, hj, q⟩, ?_⟩
    unfold Txt.find3
    rw [hfrom, StrLaws.occ_eq, occ_none (tx h) ("1" : Str) _ _ _ (fun i hi q => ?_)]
    obtain ⟨k, hk, rfl⟩ := List.mem_range'.mp hi
    exact ex ⟨n + 1 * k, by omega, (sub_one h _).mp q⟩
theorem cut_take (x : W) (n : Nat) : cutS (tx x) none (some (n : Int)) = tx (x.take n) := by
  refine str_ext ?_
  show (((tx x).cps.toList.drop (HT.sIx (tx x).length 0 none)).take (HT.sIx (tx x).length (tx x).length (some (n : Int)) - HT.sIx (tx x).length 0 none)) = _
  rw [tl_tx, tl_tx, tx_len, HT.sIx_nat, HT.sIx_none, List.drop_zero, ← List.map_take, Nat.sub_zero]
  congr 1
  rw [Nat.min_comm, ← List.take_take]
  exact List.take_of_length_le (by rw [List.length_take]; omega)
end Hs

/-! part Hm4 -/
namespace Hm
theorem pre_between : ∀ {x c h : W}, x <+: h → ¬ lt c x → ¬ lt h c → x <+: c
  | [], _, _, _, _, _ => List.nil_prefix
  | a :: x, [], _, _, h, _ => absurd nil_lt h
  | a :: x, d :: c, [], p, _, _ => by simp at p
  | a :: x, d :: c, b :: h, p, h1, h2 => by
    rw [List.cons_prefix_cons] at p ⊢
    obtain ⟨rfl, p⟩ := p
    have e : a = d := by
      cases a <;> cases d <;> first | rfl | exact absurd (.inl ⟨rfl, rfl⟩) h1 | exact absurd (.inl ⟨rfl, rfl⟩) h2
    subst e
    exact ⟨rfl, pre_between p (fun z => h1 (.inr ⟨rfl, z⟩)) fun z => h2 (.inr ⟨rfl, z⟩)⟩
theorem lt_le {x c h : W} (l : lt x c) (n : ¬ lt h c) : lt x h := by
  by_cases e : c = h
  · rw [← e]; exact l
  · exact lt_trans l (lt_tri n e)
/-- nothing in U is properly below it -/
def Mx (U : List W) (x : W) : Prop := x ∈ U ∧ ∀ y ∈ U, x <+: y → y = x
structure Cg (P told : List W) : Prop where
  st : told.Pairwise lt
  me : ∀ x, x ∈ told ↔ Mx P x
  la : ∀ c, told.getLast? = some c → ∀ x ∈ P, ¬ lt c x
theorem cg_nil : Cg [] [] := ⟨.nil, fun x => ⟨fun h => (by cases h), fun h => (by cases h.1)⟩, fun c h => by cases h⟩
theorem cg_key {P told : List W} {h c x : W} (g : Cg P told) (hP : ∀ x ∈ P, ¬ lt h x) (hc : told.getLast? = some c) (hx : x ∈ told) (p : x <+: h) : x = c := by
  have hcm : c ∈ told := List.mem_of_getLast? hc
  have hcP := ((g.me c).mp hcm).1
  have q := pre_between p (g.la c hc x ((g.me x).mp hx).1) (hP c hcP)
  exact (((g.me x).mp hx).2 c hcP q).symm
theorem top_mx {P : List W} {h : W} (hP : ∀ x ∈ P, ¬ lt h x) : Mx (P ++ [h]) h := by
  refine ⟨by simp, fun y hy p => ?_⟩
  rcases List.mem_append.mp hy with hy | hy
  · by_cases e : h = y
    · exact e.symm
    · exact absurd (lt_pre p e) (hP y hy)
  · exact List.mem_singleton.mp hy
theorem cg_pop {P t0 : List W} {h c : W} (g : Cg P (t0 ++ [c])) (hP : ∀ x ∈ P, ¬ lt h x) (p : c <+: h) : Cg (P ++ [h]) (t0 ++ [h]) := by
  have hc : (t0 ++ [c]).getLast? = some c := by simp
  obtain ⟨s1, s2, s3⟩ := List.pairwise_append.mp g.st
  have hcP : c ∈ P := ((g.me c).mp (by simp)).1
  refine ⟨?_, fun x => ⟨fun hx => ?_, fun hx => ?_⟩, fun d hd x hx => ?_⟩
  · refine List.pairwise_append.mpr ⟨s1, List.pairwise_singleton _ _, fun x hx y hy => ?_⟩
    rw [List.mem_singleton.mp hy]
    exact lt_le (s3 x hx c (by simp)) (hP c hcP)
  · rcases List.mem_append.mp hx with hx | hx
    · have m := (g.me x).mp (List.mem_append_left _ hx)
      refine ⟨List.mem_append_left _ m.1, fun y hy q => ?_⟩
      rcases List.mem_append.mp hy with hy | hy
      · exact m.2 y hy q
      · rw [List.mem_singleton.mp hy] at q
        have e := cg_key g hP hc (List.mem_append_left _ hx) q
        have := s3 x hx c (by simp)
        rw [e] at this
        exact absurd this (lt_irrefl _)
    · rw [List.mem_singleton.mp hx]; exact top_mx hP
  · rcases List.mem_append.mp hx.1 with h1 | h1
    · have m : x ∈ t0 ++ [c] := (g.me x).mpr ⟨h1, fun y hy q => hx.2 y (List.mem_append_left _ hy) q⟩
      rcases List.mem_append.mp m with m | m
      · exact List.mem_append_left _ m
      · have e := List.mem_singleton.mp m
        subst e
        have := hx.2 h (by simp) p
        rw [this]; simp
    · exact List.mem_append_right _ h1
  · have e : h = d := by simpa using hd
    subst e
    rcases List.mem_append.mp hx with hx | hx
    · exact hP x hx
    · rw [List.mem_singleton.mp hx]; exact lt_irrefl _
theorem cg_push {P told : List W} {h : W} (g : Cg P told) (hP : ∀ x ∈ P, ¬ lt h x) (n : ∀ c, told.getLast? = some c → ¬ c <+: h) : Cg (P ++ [h]) (told ++ [h]) := by
  have no : ∀ x ∈ told, ¬ x <+: h := fun x hx q => by
    cases e : told.getLast? with
    | none => rw [List.getLast?_eq_none_iff.mp e] at hx; cases hx
    | some c => exact n c e (cg_key g hP e hx q ▸ q)
  refine ⟨?_, fun x => ⟨fun hx => ?_, fun hx => ?_⟩, fun d hd x hx => ?_⟩
  · refine List.pairwise_append.mpr ⟨g.st, List.pairwise_singleton _ _, fun x hx y hy => ?_⟩
    rw [List.mem_singleton.mp hy]
    exact lt_tri (hP x ((g.me x).mp hx).1) fun e => no x hx (e ▸ List.prefix_refl _)
  · rcases List.mem_append.mp hx with hx | hx
    · have m := (g.me x).mp hx
      refine ⟨List.mem_append_left _ m.1, fun y hy q => ?_⟩
      rcases List.mem_append.mp hy with hy | hy
      · exact m.2 y hy q
      · rw [List.mem_singleton.mp hy] at q
        exact absurd q (no x hx)
    · rw [List.mem_singleton.mp hx]; exact top_mx hP
  · rcases List.mem_append.mp hx.1 with h1 | h1
    · exact List.mem_append_left _ ((g.me x).mpr ⟨h1, fun y hy q => hx.2 y (List.mem_append_left _ hy) q⟩)
    · exact List.mem_append_right _ h1
  · have e : h = d := by simpa using hd
    subst e
    rcases List.mem_append.mp hx with hx | hx
    · exact hP x hx
    · rw [List.mem_singleton.mp hx]; exact lt_irrefl _
/-- a cut -/
structure Cut (l : List W) : Prop where
  an : Anti l
  de : ∀ r, den l r
/-- the common cut of two cuts -/
structure Com (a b t : List W) : Prop where
  st : t.Pairwise lt
  me : ∀ x, x ∈ t ↔ Mx (a ++ b) x
theorem nodup_lt {t : List W} (s : t.Pairwise lt) : t.Nodup := List.Pairwise.imp (R := lt) (S := fun a b => a ≠ b) (fun l e => lt_irrefl _ (e ▸ l)) s
theorem Com.anti {a b t : List W} (c : Com a b t) : Anti t :=
  anti_of (nodup_lt c.st) fun x hx y hy p => (((c.me x).mp hx).2 y ((c.me y).mp hy).1 p).symm
theorem Com.den {a b t : List W} (c : Com a b t) (ca : Cut a) (cb : Cut b) (r : Row) : den t r := by
  have part : ∀ (u : List W) (z y : W), Cut u → (∀ v ∈ u, Un v r → v.length ≤ z.length) → Un z r → y ∈ u → z <+: y → y = z := fun u z y cu hm uz hy p => by
    obtain ⟨y', hy', uy⟩ := cu.de r
    rcases un_cmp uy uz with q | q
    · have e := cu.an.ac y' hy' y hy (q.trans p)
      subst e
      exact q.eq_of_length (Nat.le_antisymm q.length_le p.length_le)
    · have e : z = y' := q.eq_of_length (Nat.le_antisymm q.length_le (hm y' hy' uy))
      subst e
      exact (cu.an.ac z hy' y hy p).symm
  have lng : ∀ (U : List W), (∃ x ∈ U, Un x r) → ∃ z ∈ U, Un z r ∧ ∀ v ∈ U, Un v r → v.length ≤ z.length := by
    intro U
    induction U with
    | nil => rintro ⟨x, hx, _⟩; cases hx
    | cons a U ih =>
      rintro ⟨x, hx, ux⟩
      by_cases hU : ∃ x ∈ U, Un x r
      · obtain ⟨z, hz, uz, hm⟩ := ih hU
        by_cases ha : Un a r ∧ z.length < a.length
        · refine ⟨a, .head _, ha.1, fun v hv uv => ?_⟩
          rcases List.mem_cons.mp hv with rfl | hv
          · exact Nat.le_refl _
          · exact Nat.le_trans (hm v hv uv) (Nat.le_of_lt ha.2)
        · refine ⟨z, .tail _ hz, uz, fun v hv uv => ?_⟩
          rcases List.mem_cons.mp hv with rfl | hv
          · exact Nat.le_of_not_lt fun q => ha ⟨uv, q⟩
          · exact hm v hv uv
      · rcases List.mem_cons.mp hx with rfl | hx
        · refine ⟨x, .head _, ux, fun v hv uv => ?_⟩
          rcases List.mem_cons.mp hv with rfl | hv
          · exact Nat.le_refl _
          · exact absurd ⟨v, hv, uv⟩ hU
        · exact absurd ⟨x, hx, ux⟩ hU
  obtain ⟨x, hx, ux⟩ := ca.de r
  obtain ⟨z, hz, uz, hm⟩ := lng (a ++ b) ⟨x, List.mem_append_left _ hx, ux⟩
  refine ⟨z, (c.me z).mpr ⟨hz, fun y hy p => ?_⟩, uz⟩
  rcases List.mem_append.mp hy with hy | hy
  · exact part a z y ca (fun v hv => hm v (List.mem_append_left _ hv)) uz hy p
  · exact part b z y cb (fun v hv => hm v (List.mem_append_right _ hv)) uz hy p
theorem Com.up {a b t : List W} (c : Com a b t) {u : List W} (cu : Cut u) (hu : ∀ x ∈ u, x ∈ a ++ b) {h : W} (hh : h ∈ t) : ∃ x ∈ u, x <+: h := by
  obtain ⟨r, hr⟩ := un_ex h
  obtain ⟨x, hx, ux⟩ := cu.de r
  rcases un_cmp ux hr with q | q
  · exact ⟨x, hx, q⟩
  · have := ((c.me h).mp hh).2 x (hu x hx) q
    exact ⟨x, hx, this ▸ List.prefix_refl _⟩
/-! ### the sum of the halves -/
end Hm

/-! part Hc -/
namespace Hm
/-! ### why a list of heads is no cut -/
/-- a row stands before all rows under a head -/
def Bef : W → Row → Prop
  | [], _ => False
  | b :: s, r => (b = true ∧ r 0 = false) ∨ (r 0 = b ∧ Bef s fun n => r (n + 1))
theorem bef_app : ∀ {x y : W} {r : Row}, Bef (x ++ y) r ↔ Bef x r ∨ (Un x r ∧ Bef y fun n => r (n + x.length))
  | [], y, r => by
    constructor
    · exact fun h => .inr ⟨trivial, h⟩
    · rintro (h | h)
      · exact h.elim
      · exact h.2
  | b :: x, y, r => by
    show ((b = true ∧ r 0 = false) ∨ (r 0 = b ∧ Bef (x ++ y) fun n => r (n + 1))) ↔ ((b = true ∧ r 0 = false) ∨ (r 0 = b ∧ Bef x fun n => r (n + 1))) ∨ ((r 0 = b ∧ Un x fun n => r (n + 1)) ∧ Bef y fun n => r (n + (x.length + 1)))
    rw [bef_app (x := x)]
    have e : (fun n => r (n + (x.length + 1))) = fun n => (fun n => r (n + 1)) (n + x.length) := by funext n; show r _ = r _; congr 1
    rw [e]
    constructor
    · rintro (h | ⟨h1, h2 | h2⟩)
      · exact .inl (.inl h)
      · exact .inl (.inr ⟨h1, h2⟩)
      · exact .inr ⟨⟨h1, h2.1⟩, h2.2⟩
    · rintro ((h | h) | ⟨⟨h1, h2⟩, h3⟩)
      · exact .inl h
      · exact .inr ⟨h.1, .inl h.2⟩
      · exact .inr ⟨h1, .inr ⟨h2, h3⟩⟩
theorem bef_zeros : ∀ {z : W} {r : Row}, (∀ b ∈ z, b = false) → ¬ Bef z r
  | [], _, _, h => h
  | b :: z, r, hz, h => by
    have hb := hz b (.head _)
    subst hb
    rcases h with h | h
    · cases h.1
    · exact bef_zeros (fun b hb => hz b (.tail _ hb)) h.2
theorem ones_or : ∀ (k : Nat) (r : Row), Un (List.replicate k true) r ∨ Bef (List.replicate k true) r
  | 0, _ => .inl trivial
  | k + 1, r => by
    rw [List.replicate_succ]
    cases h : r 0 with
    | false => exact .inr (.inl ⟨rfl, h⟩)
    | true =>
      rcases ones_or k fun n => r (n + 1) with u | u
      · exact .inl ⟨h, u⟩
      · exact .inr (.inr ⟨h, u⟩)
theorem lt_ones : ∀ {k : Nat} {y : W}, lt (List.replicate k true) y → List.replicate k true <+: y
  | 0, _, _ => List.nil_prefix
  | k + 1, [], h => absurd h (lt_nil _)
  | k + 1, b :: y, h => by
    rw [List.replicate_succ] at h ⊢
    rcases h with h | h
    · cases h.1
    · rw [List.cons_prefix_cons]; exact ⟨h.1, lt_ones h.2⟩
/-- each head is ones alone, or ends in a nought and ones -/
theorem forms (h : W) : (∃ k, h = List.replicate k true) ∨ ∃ st k, h = st ++ false :: List.replicate k true := by
  induction hn : h.length using Nat.strongRecOn generalizing h with
  | ind n ih =>
    rcases List.eq_nil_or_concat h with rfl | ⟨t, b, rfl⟩
    · exact .inl ⟨0, rfl⟩
    · rw [List.concat_eq_append] at hn ⊢
      cases b with
      | false => exact .inr ⟨t, 0, rfl⟩
      | true =>
        rcases ih t.length (by rw [← hn]; simp) t rfl with ⟨k, rfl⟩ | ⟨st, k, rfl⟩
        · exact .inl ⟨k + 1, by rw [List.replicate_succ']⟩
        · exact .inr ⟨st, k + 1, by rw [List.replicate_succ', List.append_assoc]; rfl⟩
theorem ap_ext {x s m : W} (h : Ap x s) (p : s <+: m) : Ap x m := by
  refine ⟨fun q => ?_, fun q => h.2 (p.trans q)⟩
  rcases List.prefix_or_prefix_of_prefix q p with z | z
  · exact h.1 z
  · exact h.2 z
theorem lt_halves : ∀ {t y h : W}, (t ++ [false]) <+: y → (t ++ [true]) <+: h → lt y h
  | [], y, h, p, q => by
    obtain ⟨u, rfl⟩ := p
    obtain ⟨v, rfl⟩ := q
    exact .inl ⟨rfl, rfl⟩
  | a :: t, y, h, p, q => by
    match y, h, p, q with
    | [], _, p, _ => simp at p
    | _ :: _, [], _, q => simp at q
    | b :: y, c :: h, p, q =>
      rw [List.cons_append, List.cons_prefix_cons] at p q
      obtain ⟨rfl, p⟩ := p
      obtain ⟨rfl, q⟩ := q
      exact .inr ⟨rfl, lt_halves p q⟩
theorem lt_asymm {x y : W} (h : lt x y) (h' : lt y x) : False := lt_irrefl _ (lt_trans h h')
theorem pre_snoc {y t : W} {b : Bool} (h : y <+: t ++ [b]) : y <+: t ∨ y = t ++ [b] := by
  rcases Nat.lt_or_ge t.length y.length with q | q
  · right
    have hl := h.length_le
    rw [List.length_append] at hl
    exact h.eq_of_length (by rw [List.length_append]; simp at hl ⊢; omega)
  · exact .inl (List.prefix_of_prefix_length_le h (List.prefix_append _ _) q)
/-- what stands while a head is sought that is apart from all -/
structure Lo (done rest : List W) (s : W) : Prop where
  st : (done ++ rest).Pairwise lt
  an : Anti (done ++ rest)
  ap : ∀ x ∈ done, Ap x s
  up : ∀ y ∈ rest, y <+: s → y = s
  ge : ∀ y ∈ rest, ¬ lt y s
  cov : ∀ r, Bef s r → den done r
theorem lo_start {l : List W} (st : l.Pairwise lt) (an : Anti l) : Lo [] l [] :=
  ⟨st, an, (fun x h => by cases h), fun y _ p => List.prefix_nil.mp p, fun y _ => lt_nil y, fun r h => False.elim h⟩
theorem Lo.parts {done rest : List W} {h s : W} (g : Lo done (h :: rest) s) : (∀ x ∈ done, lt x h ∧ Ap x h) ∧ (∀ y ∈ rest, lt h y ∧ Ap h y) := by
  obtain ⟨_, a2, a3⟩ := List.pairwise_append.mp g.st
  obtain ⟨_, b2, b3⟩ := List.pairwise_append.mp (show List.Pairwise Ap _ from g.an)
  exact ⟨fun x hx => ⟨a3 x hx h (.head _), b3 x hx h (.head _)⟩, fun y hy => ⟨(List.pairwise_cons.mp a2).1 y hy, (List.pairwise_cons.mp b2).1 y hy⟩⟩
/-- the next head does not begin with what is sought -/
theorem lo_miss {done rest : List W} {h s : W} (g : Lo done (h :: rest) s) (n : ¬ s <+: h) : ∀ x ∈ done ++ h :: rest, Ap s x := by
  have k : ∀ y ∈ h :: rest, ¬ s <+: y := fun y hy p => by
    rcases List.mem_cons.mp hy with rfl | hy'
    · exact n p
    · exact n (pre_between p (g.ge h (.head _)) fun q => lt_asymm q ((g.parts.2 y hy').1))
  intro x hx
  rcases List.mem_append.mp hx with hx | hx
  · exact (g.ap x hx).symm
  · exact ⟨k x hx, fun p => k x hx ((g.up x hx p) ▸ List.prefix_refl _)⟩
/-- there is a one behind what is sought -/
theorem lo_turn {done rest : List W} {h s : W} {d : Nat} (g : Lo done (h :: rest) s) (p : s <+: h) (hd : s.length ≤ d) (h1 : h[d]? = some true) : ∀ x ∈ done ++ h :: rest, Ap (h.take d ++ [false]) x := by
  obtain ⟨dl, de⟩ := List.getElem?_eq_some_iff.mp h1
  have ph : h.take d ++ [true] <+: h := by
    have : h.take (d + 1) = h.take d ++ [true] := by rw [List.take_add_one, h1]; rfl
    rw [← this]; exact List.take_prefix _ _
  have ps : s <+: h.take d ++ [false] := (List.prefix_of_prefix_length_le p (List.take_prefix d h) (by rw [List.length_take]; omega)).trans (List.prefix_append _ _)
  intro x hx
  rcases List.mem_append.mp hx with hx | hx
  · exact (ap_ext (g.ap x hx) ps).symm
  · rcases List.mem_cons.mp hx with rfl | hx
    · exact ap_ext (ap_halves _) ph
    · obtain ⟨l, _⟩ := g.parts.2 x hx
      refine ⟨fun q => lt_asymm l (lt_halves q ph), fun q => ?_⟩
      rcases pre_snoc q with q | q
      · have := q.trans (List.take_prefix d h)
        by_cases e : x = h
        · rw [e] at l; exact lt_irrefl _ l
        · exact lt_asymm l (lt_pre this e)
      · exact lt_asymm l (lt_halves (q ▸ List.prefix_refl _) ph)
theorem zeros_of {h s : W} (p : s <+: h) (z : ∀ j, s.length ≤ j → j < h.length → h[j]? = some false) : ∃ u, h = s ++ u ∧ ∀ b ∈ u, b = false := by
  obtain ⟨u, rfl⟩ := p
  refine ⟨u, rfl, fun b hb => ?_⟩
  obtain ⟨i, hi, rfl⟩ := List.getElem_of_mem hb
  have := z (s.length + i) (by omega) (by rw [List.length_append]; omega)
  rw [List.getElem?_append_right (by omega), Nat.add_sub_cancel_left, List.getElem?_eq_getElem hi] at this
  exact Option.some.inj this
theorem bef_down {s u : W} {r : Row} (hu : ∀ b ∈ u, b = false) (h : Bef (s ++ u) r) : Bef s r := by
  rcases bef_app.mp h with h | h
  · exact h
  · exact (bef_zeros hu h.2).elim
/-- nothing is left behind ones alone -/
theorem lo_last {done rest : List W} {s : W} {k : Nat} (g : Lo done (List.replicate k true :: rest) s) (p : s <+: List.replicate k true) (z : ∀ j, s.length ≤ j → j < (List.replicate k true).length → (List.replicate k true)[j]? = some false) : rest = [] ∧ ∀ r, den (done ++ [List.replicate k true]) r := by
  constructor
  · cases rest with
    | nil => rfl
    | cons y rest =>
      obtain ⟨l, a⟩ := g.parts.2 y (.head _)
      exact absurd (lt_ones l) a.1
  · intro r
    obtain ⟨u, e, hu⟩ := zeros_of p z
    rcases ones_or k r with q | q
    · exact ⟨_, List.mem_append_right _ (.head _), q⟩
    · rw [e] at q
      obtain ⟨x, hx, ux⟩ := g.cov r (bef_down hu q)
      exact ⟨x, List.mem_append_left _ hx, ux⟩
theorem lo_next {done rest : List W} {s st : W} {k : Nat} (g : Lo done ((st ++ false :: List.replicate k true) :: rest) s) (p : s <+: st ++ false :: List.replicate k true)
    (z : ∀ j, s.length ≤ j → j < (st ++ false :: List.replicate k true).length → (st ++ false :: List.replicate k true)[j]? = some false) : Lo (done ++ [st ++ false :: List.replicate k true]) rest (st ++ [true]) := by
  have e0 : st ++ false :: List.replicate k true = (st ++ [false]) ++ List.replicate k true := by simp
  have ph : st ++ [false] <+: st ++ false :: List.replicate k true := ⟨_, e0.symm⟩
  have pst : st <+: st ++ false :: List.replicate k true := List.prefix_append _ _
  have hl : ∀ {y : W}, st ++ [true] <+: y → lt (st ++ false :: List.replicate k true) y := fun q => lt_halves ph q
  refine ⟨by simpa using g.st, by simpa using g.an, fun x hx => ?_, fun y hy q => ?_, fun y hy q => ?_, fun r q => ?_⟩
  · rcases List.mem_append.mp hx with hx | hx
    · obtain ⟨l, a⟩ := g.parts.1 x hx
      refine ⟨fun q => ?_, fun q => lt_asymm l (hl q)⟩
      rcases pre_snoc q with q | q
      · exact a.1 (q.trans pst)
      · exact lt_asymm l (hl (q ▸ List.prefix_refl _))
    · rw [List.mem_singleton.mp hx]
      exact (ap_ext (ap_halves st).symm ph).symm
  · obtain ⟨_, a⟩ := g.parts.2 y hy
    rcases pre_snoc q with q | q
    · exact absurd (q.trans pst) a.2
    · exact q
  · obtain ⟨l, a⟩ := g.parts.2 y hy
    have l2 : lt (st ++ [false]) y := by
      by_cases e : st ++ [false] = st ++ false :: List.replicate k true
      · rw [e]; exact l
      · exact lt_trans (lt_pre ph e) l
    obtain ⟨u, rfl⟩ := between l2 q
    refine a.1 ?_
    rw [e0]
    have l3 : ∀ {t u v : W}, lt (t ++ u) (t ++ v) → lt u v := by
      intro t u v
      induction t with
      | nil => exact id
      | cons b t ih =>
        rintro (h | h)
        · cases h.1 ▸ h.2
        · exact ih h.2
    rw [e0] at l
    obtain ⟨v, hv⟩ := lt_ones (l3 l)
    exact ⟨v, by rw [List.append_assoc, hv]⟩
  · obtain ⟨u, e, hu⟩ := zeros_of p z
    have fin : Bef (st ++ false :: List.replicate k true) r → den (done ++ [st ++ false :: List.replicate k true]) r := fun q => by
      rw [e] at q
      obtain ⟨x, hx, ux⟩ := g.cov r (bef_down hu q)
      exact ⟨x, List.mem_append_left _ hx, ux⟩
    rcases bef_app.mp q with q | ⟨q1, q2⟩
    · exact fin (bef_app.mpr (.inl q))
    · have q3 : r st.length = false := by
        rcases q2 with h | h
        · simpa using h.2
        · exact h.2.elim
      have u1 : Un (st ++ [false]) r := un_snoc.mpr ⟨q1, q3⟩
      rcases ones_or k fun n => r (n + (st ++ [false]).length) with w | w
      · refine ⟨_, List.mem_append_right _ (.head _), ?_⟩
        rw [e0]
        exact un_app.mpr ⟨u1, w⟩
      · refine fin ?_
        rw [e0]
        exact bef_app.mpr (.inr ⟨u1, w⟩)
/-- neighbours are enough -/
theorem anti_near {l : List W} (so : l.Pairwise fun x y => ¬ lt y x) (n : ∀ i x y, l[i]? = some x → l[i + 1]? = some y → ¬ x <+: y) : Anti l := by
  refine List.pairwise_iff_getElem.mpr fun i j hi hj hij => ?_
  have ge : ∀ a b (ha : a < l.length) (hb : b < l.length), a < b → ¬ lt l[b] l[a] := fun a b ha hb hab => List.pairwise_iff_getElem.mp so a b ha hb hab
  have key : ¬ l[i] <+: l[j] := fun p => by
    have h1 : i + 1 < l.length := by omega
    refine n i l[i] l[i + 1] (List.getElem?_eq_getElem hi) (List.getElem?_eq_getElem h1) ?_
    rcases Nat.lt_or_ge (i + 1) j with q | q
    · exact pre_between p (ge i (i + 1) hi h1 (by omega)) (ge (i + 1) j h1 hj q)
    · have : j = i + 1 := by omega
      subst this
      exact p
  refine ⟨key, fun p => ?_⟩
  by_cases e : l[j] = l[i]
  · exact key (e ▸ List.prefix_refl _)
  · exact ge i j hi hj hij (lt_pre p e)
theorem not_den {l : List W} {m : W} (h : ∀ x ∈ l, Ap m x) : ¬ ∀ r, den l r := fun d => by
  obtain ⟨r, hr⟩ := un_ex m
  obtain ⟨x, hx, ux⟩ := d r
  rcases un_cmp hr ux with q | q
  · exact (h x hx).1 q
  · exact (h x hx).2 q
/-! ### the sum of the halves, the other way about -/
end Hm

/-! part Ht -/
namespace Hm
/-! ### tables of rows -/
abbrev Tb := List (W × W)
def hds (T : Tb) : List W := T.map Prod.fst
def ots (T : Tb) : List W := T.map Prod.snd
/-- a head at or below one of the table goes to another -/
def Ld (T : Tb) (h k : W) : Prop := ∃ z ∈ T, ∃ u, h = z.1 ++ u ∧ k = z.2 ++ u
theorem ld_mem {T : Tb} {h k : W} (m : (h, k) ∈ T) (u : W) : Ld T (h ++ u) (k ++ u) := ⟨_, m, u, rfl, rfl⟩
theorem hds_fun {T : Tb} (an : Anti (hds T)) {z z' : W × W} (m : z ∈ T) (m' : z' ∈ T) (e : z.1 <+: z'.1) : z = z' := by
  have nd : (hds T).Nodup := an.nodup
  have e1 : z.1 = z'.1 := an.ac _ (List.mem_map.mpr ⟨z, m, rfl⟩) _ (List.mem_map.mpr ⟨z', m', rfl⟩) e
  obtain ⟨i, hi⟩ := List.getElem?_of_mem m
  obtain ⟨j, hj⟩ := List.getElem?_of_mem m'
  have gi : (hds T)[i]? = some z.1 := by unfold hds; rw [List.getElem?_map, hi]; rfl
  have gj : (hds T)[j]? = some z.1 := by unfold hds; rw [List.getElem?_map, hj, e1]; rfl
  have := (List.getElem?_inj (List.getElem?_eq_some_iff.mp gi).1 nd).mp (gi.trans gj.symm)
  subst this
  exact Option.some.inj (hi.symm.trans hj)
theorem ld_fun {T : Tb} (an : Anti (hds T)) {h k k' : W} (l : Ld T h k) (l' : Ld T h k') : k = k' := by
  obtain ⟨z, m, u, rfl, rfl⟩ := l
  obtain ⟨z', m', u', e, rfl⟩ := l'
  have ez : z = z' := by
    rcases List.prefix_or_prefix_of_prefix (⟨u, rfl⟩ : z.1 <+: z.1 ++ u) (⟨u', e.symm⟩ : z'.1 <+: z.1 ++ u) with p | p
    · exact hds_fun an m m' p
    · exact (hds_fun an m' m p).symm
  subst ez
  rw [List.append_cancel_left e]
/-- the same exchange -/
def Eqv (T T' : Tb) : Prop := ∃ N, ∀ h, N ≤ h.length → ∀ k, Ld T h k ↔ Ld T' h k
theorem Eqv.refl (T : Tb) : Eqv T T := ⟨0, fun _ _ _ => Iff.rfl⟩
theorem Eqv.symm {T T' : Tb} (e : Eqv T T') : Eqv T' T := let ⟨N, h⟩ := e; ⟨N, fun x hx k => (h x hx k).symm⟩
theorem Eqv.trans {T T' T'' : Tb} (e : Eqv T T') (e' : Eqv T' T'') : Eqv T T'' := by
  obtain ⟨N, h⟩ := e
  obtain ⟨M, g⟩ := e'
  exact ⟨max N M, fun x hx k => (h x (by omega) k).trans (g x (by omega) k)⟩
theorem eqv_mem {T T' : Tb} (h : ∀ z, z ∈ T ↔ z ∈ T') : Eqv T T' := ⟨0, fun x _ k => ⟨fun ⟨z, m, q⟩ => ⟨z, (h z).mp m, q⟩, fun ⟨z, m, q⟩ => ⟨z, (h z).mpr m, q⟩⟩⟩
/-- two rows become one -/
theorem eqv_merge {A B : Tb} {t s : W} (hA : ∀ z, z ∈ A ↔ z = (t ++ [false], s ++ [false]) ∨ z = (t ++ [true], s ++ [true]) ∨ z ∈ B) : Eqv A ((t, s) :: B) := by
  refine ⟨t.length + 1, fun h hl k => ⟨?_, ?_⟩⟩
  · rintro ⟨z, m, u, rfl, rfl⟩
    rcases (hA z).mp m with rfl | rfl | m
    · exact ⟨_, .head _, false :: u, by simp, by simp⟩
    · exact ⟨_, .head _, true :: u, by simp, by simp⟩
    · exact ⟨z, .tail _ m, u, rfl, rfl⟩
  · rintro ⟨z, m, u, rfl, rfl⟩
    rcases List.mem_cons.mp m with rfl | m
    · cases u with
      | nil => simp at hl; omega
      | cons b u =>
        cases b with
        | false => exact ⟨_, (hA _).mpr (.inl rfl), u, by simp, by simp⟩
        | true => exact ⟨_, (hA _).mpr (.inr (.inl rfl)), u, by simp, by simp⟩
    · exact ⟨z, (hA z).mpr (.inr (.inr m)), u, rfl, rfl⟩
/-- all that is under a head goes under another -/
def SL (T : Tb) (h k : W) : Prop := ∃ N, ∀ v : W, N ≤ v.length → Ld T (h ++ v) (k ++ v)
theorem sl_eqv {T T' : Tb} (e : Eqv T T') {h k : W} (s : SL T h k) : SL T' h k := by
  obtain ⟨N, e⟩ := e
  obtain ⟨M, s⟩ := s
  exact ⟨max N M, fun v hv => (e _ (by rw [List.length_append]; omega) _).mp (s v (by omega))⟩
theorem sl_mem {T : Tb} {h k : W} (m : (h, k) ∈ T) : SL T h k := ⟨0, fun v _ => ld_mem m v⟩
/-- no two rows are halves of one -/
def Rdc (T : Tb) : Prop := ∀ t s, ¬ ((t ++ [false], s ++ [false]) ∈ T ∧ (t ++ [true], s ++ [true]) ∈ T)
def Cov (l : List W) : Prop := ∀ r, den l r
theorem cov_row {T : Tb} (c : Cov (hds T)) (h : W) : ∃ z ∈ T, z.1 <+: h ∨ h <+: z.1 := by
  obtain ⟨r, hr⟩ := un_ex h
  obtain ⟨x, hx, ux⟩ := c r
  obtain ⟨z, m, rfl⟩ := List.mem_map.mp hx
  exact ⟨z, m, un_cmp ux hr⟩
theorem sl_min {T : Tb} (an : Anti (hds T)) (c : Cov (hds T)) (rd : Rdc T) {z : W × W} (m : z ∈ T) {p s : W} (hp : p <+: z.1) (sl : SL T p s) : p = z.1 := by
  refine Classical.byContradiction fun ne => ?_
  obtain ⟨y, hy, py, lo⟩ := longest (S := hds T) (p := p) (List.mem_map.mpr ⟨z, m, rfl⟩) hp
  obtain ⟨zy, my, rfl⟩ := List.mem_map.mp hy
  have yne : zy.1 ≠ p := fun e => by
    have : zy = z := hds_fun an my m (e ▸ hp)
    exact ne (by rw [← e, this])
  obtain ⟨u0, eu⟩ := py
  rcases List.eq_nil_or_concat u0 with rfl | ⟨u, b, rfl⟩
  · exact yne (by rw [← eu, List.append_nil])
  rw [List.concat_eq_append] at eu
  -- its other half
  obtain ⟨z', m', cmp⟩ := cov_row c (p ++ u ++ [!b])
  have hz' : p ++ u ++ [!b] <+: z'.1 := by
    rcases cmp with q | q
    · rcases pre_snoc q with q | q
      · have : z' = zy := hds_fun an m' my (q.trans ⟨[b], by rw [← eu, List.append_assoc]⟩)
        subst this
        have l1 := q.length_le
        rw [← eu, List.length_append, List.length_append, List.length_append] at l1
        simp at l1
        omega
      · rw [q]; exact List.prefix_refl _
    · exact q
  have ez' : z'.1 = p ++ u ++ [!b] := by
    refine (hz'.eq_of_length (Nat.le_antisymm hz'.length_le ?_)).symm
    have := lo z'.1 (List.mem_map.mpr ⟨z', m', rfl⟩) ((List.append_assoc p u [!b] ▸ (⟨u ++ [!b], by simp⟩ : p <+: p ++ u ++ [!b]) : p <+: p ++ u ++ [!b]).trans hz')
    rw [← eu] at this
    simp at this ⊢
    omega
  obtain ⟨N, sl⟩ := sl
  have tell : ∀ (q : W × W) (d : Bool), q ∈ T → q.1 = p ++ u ++ [d] → q.2 = s ++ u ++ [d] := fun q d mq eq => by
    have l1 := sl (u ++ [d] ++ List.replicate N false) (by simp; omega)
    have l2 : Ld T (q.1 ++ List.replicate N false) (q.2 ++ List.replicate N false) := ld_mem mq _
    rw [eq] at l2
    have e2 : p ++ (u ++ [d] ++ List.replicate N false) = p ++ u ++ [d] ++ List.replicate N false := by simp
    rw [e2] at l1
    have := ld_fun an l1 l2
    have e3 : s ++ (u ++ [d] ++ List.replicate N false) = (s ++ u ++ [d]) ++ List.replicate N false := by simp
    rw [e3] at this
    exact (List.append_cancel_right this).symm
  have t1 := tell zy b my (by rw [← eu, List.append_assoc])
  have t2 := tell z' (!b) m' ez'
  have r1 : zy = (p ++ u ++ [b], s ++ u ++ [b]) := Prod.ext (by rw [← eu, List.append_assoc]) t1
  have r2 : z' = (p ++ u ++ [!b], s ++ u ++ [!b]) := Prod.ext ez' t2
  cases b with
  | false => exact rd (p ++ u) (s ++ u) ⟨r1 ▸ my, r2 ▸ m'⟩
  | true => exact rd (p ++ u) (s ++ u) ⟨r2 ▸ m', r1 ▸ my⟩
theorem tb_mem {T : Tb} (an : Anti (hds T)) (c : Cov (hds T)) (rd : Rdc T) (h k : W) : (h, k) ∈ T ↔ SL T h k ∧ ∀ p s, p <+: h → SL T p s → p = h := by
  constructor
  · exact fun m => ⟨sl_mem m, fun p s hp sl => sl_min an c rd m hp sl⟩
  · rintro ⟨sl, mn⟩
    obtain ⟨z, m, cmp⟩ := cov_row c h
    have e : z.1 = h := by
      rcases cmp with q | q
      · exact mn z.1 z.2 q (sl_mem m)
      · exact (sl_min an c rd m q sl).symm
    have e2 : z.2 = k := by
      obtain ⟨N, sl⟩ := sl
      have l1 := sl (List.replicate N false) (by simp)
      have l2 : Ld T (z.1 ++ List.replicate N false) (z.2 ++ List.replicate N false) := ld_mem m _
      rw [e] at l2
      exact List.append_cancel_right (ld_fun an l2 l1)
    rw [← e, ← e2]
    exact m
/-- fewest rows are told in one way -/
theorem tb_canon {T T' : Tb} (an : Anti (hds T)) (c : Cov (hds T)) (rd : Rdc T) (an' : Anti (hds T')) (c' : Cov (hds T')) (rd' : Rdc T') (e : Eqv T T') (z : W × W) : z ∈ T ↔ z ∈ T' := by
  have := tb_mem an c rd z.1 z.2
  have := tb_mem an' c' rd' z.1 z.2
  have q : ∀ p s, SL T p s ↔ SL T' p s := fun p s => ⟨sl_eqv e, sl_eqv e.symm⟩
  constructor
  · intro m
    obtain ⟨a, b⟩ := (tb_mem an c rd z.1 z.2).mp m
    exact (tb_mem an' c' rd' z.1 z.2).mpr ⟨(q _ _).mp a, fun p s hp sl => b p s hp ((q _ _).mpr sl)⟩
  · intro m
    obtain ⟨a, b⟩ := (tb_mem an' c' rd' z.1 z.2).mp m
    exact (tb_mem an c rd z.1 z.2).mpr ⟨(q _ _).mpr a, fun p s hp sl => b p s hp ((q _ _).mp sl)⟩
/-- rows by their heads -/
def Sd (T : Tb) : Prop := (hds T).Pairwise lt
theorem sd_ext {T T' : Tb} (s : Sd T) (s' : Sd T') (h : ∀ z, z ∈ T ↔ z ∈ T') : T = T' := by
  have eh : hds T = hds T' := sorted_ext s s' fun x => by
    unfold hds
    rw [List.mem_map, List.mem_map]
    exact ⟨fun ⟨z, m, e⟩ => ⟨z, (h z).mp m, e⟩, fun ⟨z, m, e⟩ => ⟨z, (h z).mpr m, e⟩⟩
  have nd : (hds T').Nodup := nodup_lt s'
  refine List.ext_getElem? fun i => ?_
  have gi : (hds T)[i]? = (hds T')[i]? := by rw [eh]
  unfold hds at gi
  rw [List.getElem?_map, List.getElem?_map] at gi
  cases e1 : T[i]? with
  | none =>
    rw [e1] at gi
    cases e2 : T'[i]? with
    | none => rfl
    | some z' => rw [e2] at gi; cases gi
  | some z =>
    cases e2 : T'[i]? with
    | none => rw [e1, e2] at gi; cases gi
    | some z' =>
      rw [e1, e2] at gi
      have ez : z.1 = z'.1 := Option.some.inj gi
      obtain ⟨j, hj⟩ := List.getElem?_of_mem ((h z).mp (List.mem_of_getElem? e1))
      have g1 : (hds T')[j]? = some z.1 := by unfold hds; rw [List.getElem?_map, hj]; rfl
      have g2 : (hds T')[i]? = some z.1 := by unfold hds; rw [List.getElem?_map, e2]; exact congrArg some ez.symm
      have := (List.getElem?_inj (List.getElem?_eq_some_iff.mp g1).1 nd).mp (g1.trans g2.symm)
      subst this
      rw [hj] at e2
      exact e2
/-- an exchange's table -/
structure Xc (T : Tb) : Prop where
  h : Cut (hds T)
  o : Cut (ots T)
/-- the fewest rows of an exchange -/
structure Few (T F : Tb) : Prop where
  x : Xc F
  rd : Rdc F
  sd : Sd F
  e : Eqv T F
theorem Few.uniq {T T' F F' : Tb} (f : Few T F) (f' : Few T' F') (e : Eqv T T') : F = F' :=
  sd_ext f.sd f'.sd (tb_canon f.x.h.an f.x.h.de f.rd f'.x.h.an f'.x.h.de f'.rd ((f.e.symm.trans e).trans f'.e))
/-! ### rows joined -/
theorem anti_perm_cons {F B : List W} {a b t : W} (p : F.Perm (a :: b :: B)) (an : Anti F) (ha : a = t ++ [false]) (hb : b = t ++ [true]) : Anti (t :: B) := by
  subst ha hb
  have an' := an.perm p
  obtain ⟨a4, a5⟩ := List.pairwise_cons.mp an'
  obtain ⟨a6, a7⟩ := List.pairwise_cons.mp a5
  exact List.pairwise_cons.mpr ⟨fun y hy => (ap_merge (a4 y (.tail _ hy)).symm (a6 y hy).symm).symm, a7⟩
theorem cov_perm_cons {F B : List W} {a b t : W} (p : F.Perm (a :: b :: B)) (c : Cov F) (ha : a = t ++ [false]) (hb : b = t ++ [true]) : Cov (t :: B) := fun r => by
  subst ha hb
  refine (den_merge (A := F) r fun x => ?_).mp (c r)
  rw [p.mem_iff, List.mem_cons, List.mem_cons]
theorem xc_merge {F B : Tb} {t s : W} (p : F.Perm ((t ++ [false], s ++ [false]) :: (t ++ [true], s ++ [true]) :: B)) (x : Xc F) : Xc ((t, s) :: B) ∧ Eqv F ((t, s) :: B) := by
  have ph : (hds F).Perm ((t ++ [false]) :: (t ++ [true]) :: hds B) := p.map Prod.fst
  have po : (ots F).Perm ((s ++ [false]) :: (s ++ [true]) :: ots B) := p.map Prod.snd
  refine ⟨⟨⟨anti_perm_cons ph x.h.an rfl rfl, cov_perm_cons ph x.h.de rfl rfl⟩, ⟨anti_perm_cons po x.o.an rfl rfl, cov_perm_cons po x.o.de rfl rfl⟩⟩, eqv_merge fun z => ?_⟩
  rw [p.mem_iff, List.mem_cons, List.mem_cons]
theorem Cut.perm {l m : List W} (c : Cut l) (p : l.Perm m) : Cut m := ⟨c.an.perm p, fun r => (den_perm p r).mp (c.de r)⟩
theorem Xc.perm {F G : Tb} (x : Xc F) (p : F.Perm G) : Xc G := ⟨x.h.perm (show (hds F).Perm (hds G) from p.map Prod.fst), x.o.perm (show (ots F).Perm (ots G) from p.map Prod.snd)⟩
def SibT (a b : W × W) : Prop := ∃ t s, a = (t ++ [false], s ++ [false]) ∧ b = (t ++ [true], s ++ [true])
def NoAdjT (l : Tb) : Prop := ∀ l1 a b l2, l = l1 ++ a :: b :: l2 → ¬ SibT a b
theorem noAdjT_nil : NoAdjT [] := fun l1 a b l2 h => by simp at h
theorem noAdjT_snoc {l : Tb} {h : W × W} (n : NoAdjT l) (hl : ∀ a, l.getLast? = some a → ¬ SibT a h) : NoAdjT (l ++ [h]) := by
  intro l1 a b l2 e
  rcases List.eq_nil_or_concat l2 with rfl | ⟨l3, c, rfl⟩
  · have e' : l ++ [h] = (l1 ++ [a]) ++ [b] := by rw [e]; simp
    obtain ⟨e1, e2⟩ := List.append_inj' e' rfl
    cases e2
    exact hl a (by rw [e1]; simp)
  · have e' : l ++ [h] = (l1 ++ a :: b :: l3) ++ [c] := by rw [e]; simp
    obtain ⟨e1, _⟩ := List.append_inj' e' rfl
    exact n l1 a b l3 e1
theorem noAdjT_pre {l m : Tb} (n : NoAdjT (l ++ m)) : NoAdjT l := fun l1 a b l2 e => n l1 a b (l2 ++ m) (by rw [e]; simp)
theorem noAdjT_rdc {l : Tb} (s : Sd l) (an : Anti (hds l)) (n : NoAdjT l) : Rdc l := by
  rintro t s' ⟨h0, h1⟩
  obtain ⟨l1, l2, rfl⟩ := List.append_of_mem h0
  have s0 := s
  unfold Sd hds at s
  rw [List.map_append, List.map_cons] at s
  obtain ⟨_, s2, s3⟩ := List.pairwise_append.mp s
  obtain ⟨s4, s5⟩ := List.pairwise_cons.mp s2
  have lt01 : lt (t ++ [false]) (t ++ [true]) := lt_halves (List.prefix_refl _) (List.prefix_refl _)
  have m2 : (t ++ [true], s' ++ [true]) ∈ l2 := by
    rcases List.mem_append.mp h1 with h | h
    · exact (lt_asymm lt01 (s3 _ (List.mem_map.mpr ⟨_, h, rfl⟩) _ (.head _))).elim
    · rcases List.mem_cons.mp h with h | h
      · have := congrArg Prod.fst h
        simp at this
      · exact h
  match l2, m2, s4, s5, n, an with
  | b :: l3, m2, s4, s5, n, an =>
    have hb : b ≠ (t ++ [true], s' ++ [true]) := fun e => n l1 _ b l3 rfl ⟨t, s', rfl, e⟩
    have m3 : (t ++ [true], s' ++ [true]) ∈ l3 := by
      rcases List.mem_cons.mp m2 with h | h
      · exact absurd h.symm hb
      · exact h
    rw [List.map_cons] at s4 s5
    have p := between (s4 b.1 (.head _)) ((List.pairwise_cons.mp s5).1 _ (List.mem_map.mpr ⟨_, m3, rfl⟩))
    have e := an.ac _ (List.mem_map.mpr ⟨(t ++ [false], s' ++ [false]), by simp, rfl⟩) b.1 (List.mem_map.mpr ⟨b, by simp, rfl⟩) p
    have := s4 b.1 (.head _)
    rw [← e] at this
    exact lt_irrefl _ this
/-- what the stack of rows and the rest are -/
structure Gd (S told rest : Tb) : Prop where
  x : Xc (told ++ rest)
  st : Sd (told ++ rest)
  na : NoAdjT told
  e : Eqv S (told ++ rest)
theorem gd_start {S l : Tb} (p : l.Perm S) (st : Sd l) (x : Xc S) : Gd S [] l := ⟨x.perm p.symm, st, noAdjT_nil, eqv_mem fun z => p.mem_iff.symm⟩
theorem mg_st {A B : List W} {t : W} (st : (A ++ (t ++ [false]) :: (t ++ [true]) :: B).Pairwise lt) (an : Anti (A ++ (t ++ [false]) :: (t ++ [true]) :: B)) : (A ++ t :: B).Pairwise lt := by
  obtain ⟨s1, s2, s3⟩ := List.pairwise_append.mp st
  obtain ⟨s4, s5⟩ := List.pairwise_cons.mp s2
  obtain ⟨s6, s7⟩ := List.pairwise_cons.mp s5
  obtain ⟨a1, a2, a3⟩ := List.pairwise_append.mp (show List.Pairwise Ap _ from an)
  have lt1 : lt t (t ++ [true]) := lt_pre (List.prefix_append _ _) (by simp)
  refine List.pairwise_append.mpr ⟨s1, List.pairwise_cons.mpr ⟨fun y hy => lt_trans lt1 (s6 y hy), s7⟩, fun x hx y hy => ?_⟩
  rcases List.mem_cons.mp hy with rfl | hy
  · exact lt_drop (s3 x hx _ (.head _)) (a3 x hx _ (.head _)).1
  · exact s3 x hx y (.tail _ (.tail _ hy))
theorem gd_merge {S told rest : Tb} {t s : W} (g : Gd S (told ++ [(t ++ [false], s ++ [false])]) ((t ++ [true], s ++ [true]) :: rest)) : Gd S told ((t, s) :: rest) := by
  have ee : (told ++ [(t ++ [false], s ++ [false])]) ++ (t ++ [true], s ++ [true]) :: rest = told ++ (t ++ [false], s ++ [false]) :: (t ++ [true], s ++ [true]) :: rest := by simp
  obtain ⟨x, st, na, e⟩ := g
  rw [ee] at x st e
  have pm : (told ++ (t ++ [false], s ++ [false]) :: (t ++ [true], s ++ [true]) :: rest).Perm ((t ++ [false], s ++ [false]) :: (t ++ [true], s ++ [true]) :: (told ++ rest)) :=
    List.perm_middle.trans ((List.perm_middle (l₁ := told)).cons _)
  obtain ⟨x1, e1⟩ := xc_merge pm x
  have pm2 : ((t, s) :: (told ++ rest)).Perm (told ++ (t, s) :: rest) := (List.perm_middle (l₁ := told)).symm
  refine ⟨x1.perm pm2, ?_, noAdjT_pre na, (e.trans e1).trans (eqv_mem fun z => pm2.mem_iff)⟩
  have h1 : hds (told ++ (t ++ [false], s ++ [false]) :: (t ++ [true], s ++ [true]) :: rest) = hds told ++ (t ++ [false]) :: (t ++ [true]) :: hds rest := by unfold hds; simp
  have st1 := st
  have an1 := x.h.an
  unfold Sd at st1
  rw [h1] at st1 an1
  have := mg_st st1 an1
  unfold Sd
  have h2 : hds (told ++ (t, s) :: rest) = hds told ++ t :: hds rest := by unfold hds; simp
  rw [h2]
  exact this
theorem gd_put {S told rest : Tb} {z : W × W} (g : Gd S told (z :: rest)) (hl : ∀ a, told.getLast? = some a → ¬ SibT a z) : Gd S (told ++ [z]) rest := by
  obtain ⟨x, st, na, e⟩ := g
  have ee : (told ++ [z]) ++ rest = told ++ z :: rest := by simp
  exact ⟨ee ▸ x, ee ▸ st, noAdjT_snoc na hl, ee ▸ e⟩
theorem gd_end {S told : Tb} (g : Gd S told []) : Few S told := by
  obtain ⟨x, st, na, e⟩ := g
  rw [List.append_nil] at x st e
  exact ⟨x, noAdjT_rdc st x.h.an na, st, e⟩
/-- halves, as they are looked for -/
theorem half_of {a h : W} (ap : Ap a h) (e : a = h.dropLast ++ [false]) : ∃ t, a = t ++ [false] ∧ h = t ++ [true] := by
  rcases List.eq_nil_or_concat h with rfl | ⟨t, c, rfl⟩
  · exact absurd List.nil_prefix ap.2
  · rw [List.concat_eq_append] at e ap ⊢
    rw [List.dropLast_concat] at e
    subst e
    refine ⟨t, rfl, ?_⟩
    cases c with
    | false => exact absurd (List.prefix_refl _) ap.1
    | true => rfl
theorem sibT_iff {a z : W × W} (a1 : Ap a.1 z.1) (a2 : Ap a.2 z.2) : a = (z.1.dropLast ++ [false], z.2.dropLast ++ [false]) ↔ SibT a z := by
  constructor
  · intro e
    obtain ⟨t, e1, e2⟩ := half_of a1 (congrArg Prod.fst e)
    obtain ⟨s, e3, e4⟩ := half_of a2 (congrArg Prod.snd e)
    exact ⟨t, s, Prod.ext e1 e3, Prod.ext e2 e4⟩
  · rintro ⟨t, s, rfl, rfl⟩
    simp
end Hm

/-! part Dl -/
set_option Elab.async false
set_option linter.all false
set_option maxRecDepth 100000
namespace Hs
open PySem PySem.Spec PyProof.Rows L2 Hm
theorem rel_key {k : Key} {u : Value} (h : keyIs k u = true) : RelV (kV k) u := by
  rcases keyIs_shape h with ⟨i, t, rfl, rfl⟩ | ⟨x, t, rfl, rfl⟩
  · exact ⟨t, rfl⟩
  · exact ⟨t, rfl⟩
theorem vals_at : ∀ {xs : List V} {us : List Value}, us.length = xs.length → (∀ (j : Nat) u, us[j]? = some u → ∃ x, xs[j]? = some x ∧ RelV x u) → Vals xs us
  | [], [], _, _ => .nil
  | [], _ :: _, h, _ => by simp at h
  | _ :: _, [], h, _ => by simp at h
  | x :: xs, u :: us, h, k => by
    obtain ⟨y, e, r⟩ := k 0 u rfl
    cases e
    exact .cons r (vals_at (by simpa using h) fun j v e => k (j + 1) v e)
section
variable {X : Cx}
/-- list(d) of a dict: its keys -/
theorem call_listD (hc : X.calm = true) : CallR X (.type "list") (fun xs H Q => ∃ (d : Addr) (kvs : List (Key × V)), xs = [.ref d] ∧ H d = some (.dK kvs) ∧ ∀ l, H l = none → Q (.ref l) (upd H l (.lst (kvs.map fun kv => kV kv.1)))) := by
  intro pins s σ H xs us Q I r h
  obtain ⟨d, kvs, rfl, hd, q⟩ := h
  obtain ⟨u, rfl, rx⟩ := vals1 r
  cases rx
  obtain ⟨hz, lo, vs, kv, dd⟩ := dk_of I.hok hd
  obtain ⟨ep, da⟩ := dd.dictAt
  have hl := kv.length
  refine PySem.W.kdl_call (PySem.W.kdl_dict (knd := mixKind X.prog X.w) lo) (I.ok.hd hc) da (by rw [← hl]; exact hz) fun h' tk acc' c' hk hS hacc => ?_
  refine ⟨.ref s.heap.objs.size, _, I.laid (t' := tk) hk (Nat.le_refl _) (show ObjOk X.prog X.w _ h' _ (.lst (kvs.map fun kv => kV kv.1)) from ⟨by rw [List.length_map]; exact hz, acc'.toList, c', ?_, by rw [Array.toArray_toList]; exact hS⟩), rfl, q _ (I.hok.fresh (Nat.le_refl _))⟩
  refine vals_at ?_ fun j u e => ?_
  · rw [Array.length_toList, hacc.1, List.length_map, hl]
  · obtain ⟨k, x, e1, e2⟩ := hacc.2 j u (by rw [← Array.getElem?_toList]; exact e)
    refine ⟨kV k, ?_, rel_key e2⟩
    have ek := kv.keys
    have : (kvs.map (·.1))[j]? = some k := by rw [ek, List.getElem?_map, e1]; rfl
    rw [List.getElem?_map, Option.map_eq_some_iff] at this
    obtain ⟨z, e3, e4⟩ := this
    rw [List.getElem?_map, e3]
    exact congrArg (fun k => some (kV k)) e4
end
end Hs

/-! part Tt -/
set_option Elab.async false
set_option linter.all false
set_option maxRecDepth 100000
namespace Hs
open PySem PySem.Spec PyProof.Rows L2 Hm
/-! ### walks over what is a list or a tuple -/
abbrev iOr (a b : TI) : TI := fun σ H R => a σ H R ∨ b σ H R
theorem pi_or {X : Cx} {tg e : Expr} {a b : TI} (h1 : PI X tg e a) (h2 : PI X tg e b) : PI X tg e (iOr a b) := by
  intro pins s σ H R I h
  rcases h with h | h
  · exact h1 pins s σ H R I h
  · exact h2 pins s σ H R I h
/-- a list or a tuple, by b -/
def SqB (K : PySem.W.Frag) (b : Bool) (H : Hp) (a : Addr) (xs : List V) : Prop := if b = true then SqL K H a xs else SqT K H a xs
theorem for_or {K : PySem.W.Frag} {b : Bool} {a : Addr} {xs : List V} {n : Nat} {g : TG} {tb : TS} {D : Ends} {σ : L2.St} {H : Hp} (Pv : Nat → L2.St → Hp → Prop) (hv : σ[n]? = some (some (.ref a))) (hq : SqB K b H a xs) (h0 : Pv 0 σ H) (hl : ∀ i σ H, i ≤ xs.length → Pv i σ H → SqB K b H a xs)
    (hs : ∀ i x σ H, xs[i]? = some x → Pv i σ H → g x σ H fun σ2 H2 => tb { D with nx := Pv (i + 1), ct := Pv (i + 1), bk := D.nx } σ2 H2) (hd : ∀ σ H, Pv xs.length σ H → D.nx σ H) : tFor (iOr (iList K (tVar n)) (iTup K (tVar n))) g tb D σ H := by
  cases b with
  | true => exact .inl ⟨_, hv, a, rfl, ⟨xs, hq⟩, for_list Pv h0 hl hs hd⟩
  | false => exact .inr ⟨_, hv, a, rfl, ⟨xs, hq⟩, for_tup Pv h0 hl hs hd⟩
theorem lc_or {K : PySem.W.Frag} {b : Bool} {a : Addr} {xs : List V} {n : Nat} {g : TG} {tt : TT} {te : TE} {vs : List Nat} {σ : L2.St} {H : Hp} {Q : VK} (hv : σ[n]? = some (some (.ref a))) (hq : SqB K b H a xs) (Pv : Addr → Nat → Hp → Prop) (h0 : ∀ D, H D = none → Pv D 0 (upd H D (.lst []))) (hl : ∀ D i H', H D = none → i ≤ xs.length → Pv D i H' → SqB K b H' a xs)
    (hs : ∀ D i x H', H D = none → xs[i]? = some x → Pv D i H' → g x (wipe σ vs) H' fun σ2 H2 => wipe σ2 vs = wipe σ vs ∧ tt σ2 H2 fun b H3 =>
      if b = true then te σ2 H3 fun y H4 => ∃ acc, H4 D = some (.lst acc) ∧ acc.length < sizeLine ∧ Pv D (i + 1) (upd H4 D (.lst (acc ++ [y]))) else Pv D (i + 1) H3) (hd : ∀ D H', H D = none → Pv D xs.length H' → Q (.ref D) H') : tLc (iOr (iList K (tVar n)) (iTup K (tVar n))) g tt te vs σ H Q := by
  cases b with
  | true => exact .inl ⟨_, hv, a, rfl, ⟨xs, hq⟩, fun D hD => lc_list (Pv D) (h0 D hD) (fun i H' => hl D i H' hD) (fun i x H' => hs D i x H' hD) (fun H' => hd D H' hD)⟩
  | false => exact .inr ⟨_, hv, a, rfl, ⟨xs, hq⟩, fun D hD => lc_tup (Pv D) (h0 D hD) (fun i H' => hl D i H' hD) (fun i x H' => hs D i x H' hD) (fun H' => hd D H' hD)⟩
/-- for .. in f([.. for ..]) -/
theorem for_sorted {K : PySem.W.Frag} {r : List V → Hp → VK → Prop} {wi : TI} {g g' : TG} {tt : TT} {te : TE} {tb : TS} {D : Ends} {vs : List Nat} {σ : L2.St} {H : Hp}
    (h : tLc wi g tt te vs σ H fun v H1 => r [v] H1 fun x H2 => ∃ a, x = .ref a ∧ (∃ xs, SqL K H2 a xs) ∧ ∃ W : Nat → Nat → L2.St → Hp → Prop, (∃ m, W 0 m σ H2) ∧ ∀ i m σ H, W i m σ H →
      ((Itl K a).stop i H ∧ D.nx σ H) ∨ ((Itl K a).go i H ∧ ∃ N : L2.St → Hp → Prop, (∀ σ' H', N σ' H' → ∃ m', m' < m ∧ W (i + 1) m' σ' H') ∧ ∀ x H', (Itl K a).yld i H x H' → g' x σ H' fun σ2 H2 => tb { D with nx := N, ct := N, bk := D.nx } σ2 H2)) :
    tFor (iList K (tCB r (tCons (tLc wi g tt te vs) tNil))) g' tb D σ H := h
/-- f([.. for ..]) is not None -/
theorem notn_lc {sp : Sp} {dvs : List V} {E : XK} {wi : TI} {g : TG} {tt : TT} {te : TE} {vs : List Nat} {σ : L2.St} {H : Hp} {Q : Bool → Hp → Prop}
    (h : tLc wi g tt te vs σ H fun v H1 => sp ([v] ++ dvs) H1 (fun x H2 => ∃ c, V.bl (!decide (x = .non)) = .bl c ∧ Q c H2) E) : tB (tNotN (tCall sp dvs E (tCons (tLc wi g tt te vs) tNil))) σ H Q := h
theorem or_of {t u : TT} {σ : L2.St} {H : Hp} {Q : Bool → Hp → Prop} (h : t σ H fun c H1 => if c = true then Q true H1 else u σ H1 Q) : tOr t u σ H Q := h
/-! ### tables in the heap -/
/-- what stands at ps, one by one -/
inductive PR (R : Addr → W × W → Prop) : List Addr → Tb → Prop
  | nil : PR R [] []
  | cons {q : Addr} {z : W × W} {ps : List Addr} {zs : Tb} (h : R q z) (t : PR R ps zs) : PR R (q :: ps) (z :: zs)
theorem PR.imp {R R' : Addr → W × W → Prop} (k : ∀ q z, R q z → R' q z) : ∀ {ps : List Addr} {zs : Tb}, PR R ps zs → PR R' ps zs
  | _, _, .nil => .nil
  | _, _, .cons h t => .cons (k _ _ h) (PR.imp k t)
section
variable {R : Addr → W × W → Prop}
theorem PR.app : ∀ {ps ps' : List Addr} {zs zs' : Tb}, PR R ps zs → PR R ps' zs' → PR R (ps ++ ps') (zs ++ zs')
  | _, _, _, _, .nil, h => h
  | _, _, _, _, .cons h t, h' => .cons h (PR.app t h')
theorem PR.len : ∀ {ps : List Addr} {zs : Tb}, PR R ps zs → ps.length = zs.length
  | _, _, .nil => rfl
  | _, _, .cons _ t => by rw [List.length_cons, List.length_cons, t.len]
theorem PR.at : ∀ {ps : List Addr} {zs : Tb} (i : Nat) {q : Addr}, PR R ps zs → ps[i]? = some q → ∃ z, zs[i]? = some z ∧ R q z
  | _, _, 0, _, .cons h t, e => by cases e; exact ⟨_, rfl, h⟩
  | _, _, i + 1, _, .cons h t, e => PR.at i t e
  | _, _, _, _, .nil, e => by simp at e
theorem PR.mem {ps : List Addr} {zs : Tb} (h : PR R ps zs) {q : Addr} (m : q ∈ ps) : ∃ z ∈ zs, R q z := by
  obtain ⟨i, hi⟩ := List.getElem?_of_mem m
  obtain ⟨z, e, r⟩ := h.at i hi
  exact ⟨z, List.mem_of_getElem? e, r⟩
theorem PR.take : ∀ {ps : List Addr} {zs : Tb} (i : Nat), PR R ps zs → PR R (ps.take i) (zs.take i)
  | _, _, 0, _ => .nil
  | _, _, i + 1, .cons h t => .cons h (PR.take i t)
  | _, _, i + 1, .nil => .nil
theorem PR.dropLast {ps : List Addr} {zs : Tb} (h : PR R ps zs) : PR R ps.dropLast zs.dropLast := by
  rw [List.dropLast_eq_take, List.dropLast_eq_take, h.len]
  exact h.take _
theorem PR.perm {ps ps' : List Addr} (p : ps'.Perm ps) : ∀ {zs : Tb}, PR R ps zs → ∃ zs', PR R ps' zs' ∧ zs'.Perm zs := by
  induction p with
  | nil => exact fun h => ⟨_, h, .refl _⟩
  | cons x p ih =>
    intro zs h
    cases h with
    | cons h t =>
      obtain ⟨zs', t', q⟩ := ih t
      exact ⟨_, .cons h t', q.cons _⟩
  | swap x y l =>
    intro zs h
    cases h with
    | cons h t =>
      cases t with
      | cons h' t => exact ⟨_, .cons h' (.cons h t), .swap _ _ _⟩
  | trans p1 p2 ih1 ih2 =>
    intro zs h
    obtain ⟨z1, t1, q1⟩ := ih2 h
    obtain ⟨z2, t2, q2⟩ := ih1 t1
    exact ⟨z2, t2, q2.trans q1⟩
/-- what holds of what stands at each two places -/
theorem PR.pair {S : Addr → Addr → Prop} {S' : W × W → W × W → Prop} (k : ∀ p q y z, R p y → R q z → S p q → S' y z) : ∀ {ps : List Addr} {zs : Tb}, PR R ps zs → ps.Pairwise S → zs.Pairwise S'
  | _, _, .nil, _ => .nil
  | _, _, .cons h t, w => by
    obtain ⟨w1, w2⟩ := List.pairwise_cons.mp w
    refine List.pairwise_cons.mpr ⟨fun z hz => ?_, PR.pair k t w2⟩
    obtain ⟨i, hi⟩ := List.getElem?_of_mem hz
    have hl := t.len
    have hil := (List.getElem?_eq_some_iff.mp hi).1
    obtain ⟨z', e, r⟩ := t.at i (List.getElem?_eq_getElem (by omega))
    rw [hi] at e
    cases e
    exact k _ _ _ _ h r (w1 _ (List.getElem_mem _))
end
/-- the pairs of texts at ps; new ones -/
abbrev PTs (K : PySem.W.Frag) (H : Hp) : List Addr → Tb → Prop := PR fun q z => SqT K H q [tv z.1, tv z.2]
abbrev PTn (H : Hp) : List Addr → Tb → Prop := PR fun q z => H q = some (.tup [tv z.1, tv z.2])
theorem PTn.s {K : PySem.W.Frag} {H : Hp} {ps : List Addr} {zs : Tb} (h : PTn H ps zs) : PTs K H ps zs := h.imp fun _ _ e => SqT.of e
section
variable {K : PySem.W.Frag} {H H' : Hp}
theorem sqT_keep {q : Addr} {xs : List V} (k : ∀ c u, H c = some (.tup u) → H' c = some (.tup u)) (kf : ∀ c o u, H c = some (.frz o u) → H' c = some (.frz o u)) (h : SqT K H q xs) : SqT K H' q xs := by
  rcases h with (h | ⟨o, h⟩) | h
  · exact .inl (.inl (k _ _ h))
  · exact .inl (.inr ⟨o, kf _ _ _ h⟩)
  · exact .inr h
/-- pairs stay -/
structure KpT (H H' : Hp) : Prop where
  t : ∀ c u, H c = some (.tup u) → H' c = some (.tup u)
  f : ∀ c o u, H c = some (.frz o u) → H' c = some (.frz o u)
theorem KpT.of (s : Same H H') : KpT H H' := ⟨fun _ _ h => s _ _ h, fun _ _ _ h => s _ _ h⟩
theorem KpT.trans {H'' : Hp} (a : KpT H H') (b : KpT H' H'') : KpT H H'' := ⟨fun c u h => b.t c u (a.t c u h), fun c o u h => b.f c o u (a.f c o u h)⟩
/-- a list or a dict is changed -/
theorem KpT.set {a : Addr} {o o' : HO} (h : H a = some o) (n1 : ∀ u, o ≠ .tup u) (n2 : ∀ x u, o ≠ .frz x u) : KpT H (upd H a o') :=
  ⟨fun c u e => by rw [upd_ne (ne_of e h (fun z => n1 u z.symm))]; exact e, fun c x u e => by rw [upd_ne (ne_of e h (fun z => n2 x u z.symm))]; exact e⟩
theorem PTs.keep (k : KpT H H') {ps : List Addr} {zs : Tb} (h : PTs K H ps zs) : PTs K H' ps zs := h.imp fun _ _ e => sqT_keep k.t k.f e
theorem PTn.keep (k : KpT H H') {ps : List Addr} {zs : Tb} (h : PTn H ps zs) : PTn H' ps zs := h.imp fun _ _ e => k.t _ _ e
end
/-- a table as a list, as a tuple, as either -/
def LT (K : PySem.W.Frag) (H : Hp) (a : Addr) (T : Tb) : Prop := ∃ ps : List Addr, H a = some (.lst (ps.map V.ref)) ∧ PTs K H ps T
def TT (K : PySem.W.Frag) (H : Hp) (a : Addr) (T : Tb) : Prop := ∃ ps : List Addr, H a = some (.tup (ps.map V.ref)) ∧ PTs K H ps T
def BT (K : PySem.W.Frag) (b : Bool) (H : Hp) (a : Addr) (T : Tb) : Prop := ∃ ps : List Addr, SqB K b H a (ps.map V.ref) ∧ PTs K H ps T
theorem LT.same {K : PySem.W.Frag} {H H' : Hp} {a : Addr} {T : Tb} (h : LT K H a T) (s : Same H H') : LT K H' a T := let ⟨ps, h1, h2⟩ := h; ⟨ps, s _ _ h1, PTs.keep (.of s) h2⟩
theorem SqB.same {K : PySem.W.Frag} {b : Bool} {H H' : Hp} {a : Addr} {xs : List V} (h : SqB K b H a xs) (s : Same H H') : SqB K b H' a xs := by
  cases b with
  | true =>
    have h : SqL K H a xs := h
    show SqL K H' a xs
    rcases h with (h | ⟨o, h⟩) | h
    · exact .inl (.inl (s _ _ h))
    · exact .inl (.inr ⟨o, s _ _ h⟩)
    · exact .inr h
  | false => exact sqT_keep (KpT.of s).t (KpT.of s).f h
theorem BT.same {K : PySem.W.Frag} {b : Bool} {H H' : Hp} {a : Addr} {T : Tb} (h : BT K b H a T) (s : Same H H') : BT K b H' a T := let ⟨ps, h1, h2⟩ := h; ⟨ps, h1.same s, PTs.keep (.of s) h2⟩
theorem LT.b {K : PySem.W.Frag} {H : Hp} {a : Addr} {T : Tb} (h : LT K H a T) : BT K true H a T := let ⟨ps, h1, h2⟩ := h; ⟨ps, SqL.of h1, h2⟩
theorem TT.b {K : PySem.W.Frag} {H : Hp} {a : Addr} {T : Tb} (h : TT K H a T) : BT K false H a T := let ⟨ps, h1, h2⟩ := h; ⟨ps, SqT.of h1, h2⟩
/-- a list, a tuple of new pairs -/
def NT (H : Hp) (a : Addr) (T : Tb) : Prop := ∃ ps : List Addr, H a = some (.lst (ps.map V.ref)) ∧ PTn H ps T
theorem NT.l {K : PySem.W.Frag} {H : Hp} {a : Addr} {T : Tb} (h : NT H a T) : LT K H a T := let ⟨ps, h1, h2⟩ := h; ⟨ps, h1, PTn.s h2⟩
theorem NT.same {H H' : Hp} {a : Addr} {T : Tb} (h : NT H a T) (s : Same H H') : NT H' a T := let ⟨ps, h1, h2⟩ := h; ⟨ps, s _ _ h1, PTn.keep (.of s) h2⟩
def TN (H : Hp) (a : Addr) (T : Tb) : Prop := ∃ ps : List Addr, H a = some (.tup (ps.map V.ref)) ∧ PTn H ps T
theorem TN.t {K : PySem.W.Frag} {H : Hp} {a : Addr} {T : Tb} (h : TN H a T) : TT K H a T := let ⟨ps, h1, h2⟩ := h; ⟨ps, h1, PTn.s h2⟩
theorem TN.kp {H H' : Hp} {a : Addr} {T : Tb} (h : TN H a T) (s : KpT H H') : TN H' a T := let ⟨ps, h1, h2⟩ := h; ⟨ps, s.t _ _ h1, PTn.keep s h2⟩
theorem TN.same {H H' : Hp} {a : Addr} {T : Tb} (h : TN H a T) (s : Same H H') : TN H' a T := h.kp (.of s)
/-! ### what pairs are sorted by -/
def keyP (H : Hp) (p : Addr) : List IK := match H p with
  | some (.tup [.str x, v]) => [.inr x.cps.toList, (vkey v).getD (.inl 0)]
  | _ => []
theorem keyP_at {H : Hp} {p : Addr} {x y : W} (h : H p = some (.tup [tv x, tv y])) : keyP H p = [.inr ((tx x).cps.toList), .inr ((tx y).cps.toList)] := by
  unfold keyP
  rw [h]
  rfl
theorem keyP_le {x y : W} {i j : IK} (h : KeyLe [.inr ((tx x).cps.toList), i] [.inr ((tx y).cps.toList), j]) : ¬ lt y x := by
  have h1 := (PyProof.Rows.lex_false (O := PyProof.Rows.itemOrd)).mp h
  have h2 : decide ((tx y).cps.toList < (tx x).cps.toList) = false := h1.1
  rw [← PyProof.Rows.ltCps_eq] at h2
  exact (not_ltCps y x).mp h2
theorem sd_of {T : Tb} (an : Anti (hds T)) (s : T.Pairwise fun y z => ¬ lt z.1 y.1) : Sd T := strict (by unfold hds; rw [List.pairwise_map]; exact s) an.nodup
end Hs

/-! part Df -/
set_option Elab.async false
set_option linter.all false
set_option maxRecDepth 100000
namespace Hs
open PySem PySem.Spec PyProof.Rows L2 Hm
/-! ### a table as a dict -/
def dkv (F : Tb) : List (Key × V) := F.map fun z => (Sum.inr (tx z.1), tv z.2)
theorem key_eq {a b : W} : ((Sum.inr (tx a) : Key) = Sum.inr (tx b)) ↔ a = b := ⟨fun h => tx_inj (Sum.inr.inj h), fun h => by rw [h]⟩
theorem dkv_app (A B : Tb) : dkv A ++ dkv B = dkv (A ++ B) := by unfold dkv; rw [List.map_append]
theorem dkv_len (F : Tb) : (dkv F).length = F.length := by unfold dkv; rw [List.length_map]
theorem val_mem : ∀ {F : Tb} {h k : W}, (hds F).Nodup → (h, k) ∈ F → valV (dkv F) (Sum.inr (tx h)) = some (tv k)
  | (a, b) :: F, h, k, nd, m => by
    by_cases e : a = h
    · subst e
      have : b = k := by
        rcases List.mem_cons.mp m with m | m
        · exact (congrArg Prod.snd m).symm
        · exact absurd (List.mem_map.mpr ⟨_, m, rfl⟩) (List.nodup_cons.mp nd).1
      subst this
      exact valV_pos rfl
    · have m' : (h, k) ∈ F := by
        rcases List.mem_cons.mp m with m | m
        · exact absurd (congrArg Prod.fst m).symm e
        · exact m
      have n : ¬ ((Sum.inr (tx a) : Key), tv b).1 = Sum.inr (tx h) := fun z => e (key_eq.mp z)
      exact (valV_neg n).trans (val_mem (List.nodup_cons.mp nd).2 m')
theorem val_none : ∀ {F : Tb} {h : W}, h ∉ hds F → valV (dkv F) (Sum.inr (tx h)) = none
  | [], _, _ => valV_nil
  | (a, b) :: F, h, n => by
    have n1 : ¬ ((Sum.inr (tx a) : Key), tv b).1 = Sum.inr (tx h) := fun z => n (List.mem_cons.mpr (.inl (key_eq.mp z).symm))
    exact (valV_neg n1).trans (val_none fun z => n (List.mem_cons.mpr (.inr z)))
theorem val_cases {F : Tb} (nd : (hds F).Nodup) (h : W) : (∃ k, (h, k) ∈ F ∧ valV (dkv F) (Sum.inr (tx h)) = some (tv k)) ∨ (h ∉ hds F ∧ valV (dkv F) (Sum.inr (tx h)) = none) := by
  by_cases m : h ∈ hds F
  · obtain ⟨z, mz, rfl⟩ := List.mem_map.mp m
    exact .inl ⟨z.2, mz, val_mem nd mz⟩
  · exact .inr ⟨m, val_none m⟩
theorem drop_dkv (F : Tb) (h : W) : dropK (dkv F) (Sum.inr (tx h)) = dkv (F.filter fun z => decide (z.1 ≠ h)) := by
  unfold dropK dkv
  rw [List.filter_map]
  congr 1
  refine List.filter_congr fun z _ => ?_
  show decide _ = decide _
  rw [Bool.eq_iff_iff, decide_eq_true_eq, decide_eq_true_eq]
  exact ⟨fun n e => n (key_eq.mpr e), fun n e => n (key_eq.mp e)⟩
theorem put_dkv {F : Tb} {h k : W} (n : h ∉ hds F) : putK (dkv F) (Sum.inr (tx h)) (tv k) = dkv (F ++ [(h, k)]) := by
  unfold putK
  have e : ((dkv F).any fun kv => decide (kv.1 = Sum.inr (tx h))) = false := by
    rw [valV_any, val_none n]
    rfl
  rw [e, if_neg Bool.false_ne_true, ← dkv_app]
  rfl
theorem merge_dkv : ∀ (B A : Tb), (hds (A ++ B)).Nodup → mergeK (dkv A) (dkv B) = dkv (A ++ B)
  | [], A, _ => by rw [List.append_nil]; rfl
  | (h, k) :: B, A, nd => by
    have n : h ∉ hds A := by
      unfold hds at nd ⊢
      rw [List.map_append, List.map_cons] at nd
      intro m
      exact (List.nodup_append.mp nd).2.2 h m h (.head _) rfl
    show mergeK (putK (dkv A) (Sum.inr (tx h)) (tv k)) (dkv B) = _
    have e : A ++ (h, k) :: B = (A ++ [(h, k)]) ++ B := by simp
    rw [e] at nd ⊢
    rw [put_dkv n]
    exact merge_dkv B (A ++ [(h, k)]) nd
theorem keys_dkv (F : Tb) : ((dkv F).map fun kv => kV kv.1) = tvs (hds F) := by
  unfold dkv hds tvs
  rw [List.map_map, List.map_map]
  rfl
theorem paired_dkv {K : PySem.W.Frag} {H : Hp} : ∀ {ps : List Addr} {T : Tb}, PTs K H ps T → Paired (fun p (kv : Key × V) => SqT K H p [kV kv.1, kv.2]) ps (dkv T)
  | _, _, .nil => .nil
  | _, _, .cons h t => .cons h (paired_dkv t)
/-- two rows out of a table -/
theorem filter_perm {F : Tb} (nd : (hds F).Nodup) {h k : W} (m : (h, k) ∈ F) : F.Perm ((h, k) :: F.filter fun z => decide (z.1 ≠ h)) := by
  induction F with
  | nil => cases m
  | cons z F ih =>
    have nd' := List.nodup_cons.mp nd
    by_cases e : z.1 = h
    · have ez : z = (h, k) := by
        rcases List.mem_cons.mp m with m | m
        · exact m.symm
        · exact absurd (List.mem_map.mpr ⟨_, m, e.symm⟩) nd'.1
      subst ez
      have ef : F.filter (fun z => decide (z.1 ≠ h)) = F := List.filter_eq_self.mpr fun y hy => decide_eq_true fun ey => nd'.1 (List.mem_map.mpr ⟨y, hy, ey⟩)
      rw [List.filter_cons, if_neg (by simp), ef]
    · have m' : (h, k) ∈ F := by
        rcases List.mem_cons.mp m with m | m
        · exact absurd (congrArg Prod.fst m).symm e
        · exact m
      rw [List.filter_cons, if_pos (decide_eq_true e)]
      exact ((ih nd'.2 m').cons z).trans (.swap _ _ _)
end Hs

/-! part Rn -/
set_option Elab.async false
set_option linter.all false
set_option maxRecDepth 100000
namespace Hs
open PySem L2 Hm
section
variable {X : Cx} {C f : Addr} {fd : FuncData} {k : Nat} {sp : Sp} {ps : List Str}
/-- len(o) by an own __len__ -/
theorem call_lenI (m : Meth X.K C "__len__" f) (F : FnOk X.prog X.w X.K X.mg X.base CX0 k f fd ps sp) (hr : Room (k + 1) X.A) (hb : Binds X.K fd ps []) :
    CallR X (.builtin "len") (fun xs H Q => ∃ a dx fs, xs = [.ref a] ∧ H a = some (.ins C dx fs) ∧ sp [.ref a] H (fun v H' => (∃ n : Nat, v = .int (n : Int) ∧ n ≤ 1000000) ∧ Q v H') E0) := by
  intro pins s σ H xs us Q I r h
  obtain ⟨a, dx, fs, rfl, ha, q⟩ := h
  obtain ⟨u, rfl, ru⟩ := vals1 r
  cases ru
  obtain ⟨mA, O, _⟩ := ins_get I.hok ha
  obtain ⟨od, J, _⟩ := O.look
  obtain ⟨mf, F1⟩ := I.fr
  refine PySem.W.len_K F1 I.ok.mod.kin J m.at_ m.fn ?_
  refine thn (run_in (A := X.A.in1) F (hr.in1) rfl hb I (.cons rfl .nil : Vals [.ref a] [.ref a]) q) fun v s1 ⟨x, H1, I1, r1, ⟨n, e1, hn⟩, q1⟩ => ?_
  subst e1
  obtain ⟨t, rfl⟩ := r1
  exact ⟨⟨by omega, by omega⟩, ⟨.int n, H1, I1.tok _, ⟨_, rfl⟩, q1⟩⟩
end
end Hs

/-! part Rs -/
set_option Elab.async false
set_option linter.all false
set_option maxRecDepth 100000
namespace Hs
open PySem PySem.Spec PyProof.Rows L2 Hm
section
variable {X : Cx} {a b : Expr} {rest : List Expr} {pos : Pos} {ta tb : TE}
end
section
variable {X : Cx} {C f : Addr} {fd : FuncData} {k : Nat} {sp : Sp} {ps : List Str}
end
end Hs

/-! part Td -/
set_option Elab.async false
set_option linter.all false
set_option maxRecDepth 100000
namespace Hs
open PySem PySem.Spec PyProof.Rows L2 Hm
/-! ### tables as data -/
def dT (F : Tb) : List PyData := F.map fun z => d2 (tx z.1) (tx z.2)
theorem eqv_dT : ∀ F G : Tb, PyData.eqvAll (dT F) (dT G) = decide (F = G)
  | [], [] => rfl
  | [], g :: G => (decide_eq_false (show ¬ ([] : Tb) = g :: G from fun z => nomatch z)).symm
  | f :: F, [] => (decide_eq_false (show ¬ f :: F = ([] : Tb) from fun z => nomatch z)).symm
  | f :: F, g :: G => by
    show (PyData.eqv (d2 (tx f.1) (tx f.2)) (d2 (tx g.1) (tx g.2)) && PyData.eqvAll (dT F) (dT G)) = _
    rw [eqv_dT F G, eqv_d2W, Bool.eq_iff_iff, Bool.and_eq_true, decide_eq_true_eq, decide_eq_true_eq, decide_eq_true_eq, List.cons.injEq, Prod.ext_iff]
theorem canLay_dT : ∀ F : Tb, PyData.canLayAll0 (dT F) = true
  | [] => rfl
  | f :: F => by
    have h := SeqAt.canLay_of_shaped (shaped_d2 f.1 f.2)
    show ((d2 (tx f.1) (tx f.2)).canLay0 && PyData.canLayAll0 (dT F)) = true
    rw [h, canLay_dT F]
    rfl
theorem depth_dT : ∀ F : Tb, PyData.depthAll (dT F) ≤ 1
  | [] => by decide
  | f :: F => by
    show max (d2 (tx f.1) (tx f.2)).depth (PyData.depthAll (dT F)) ≤ 1
    have h := depth_dT F
    have h2 : (d2 (tx f.1) (tx f.2)).depth = 1 := rfl
    omega
theorem shaped_tT (F : Tb) : SeqAt.shaped (.tuple (dT F)) = true := by
  unfold SeqAt.shaped
  rw [Bool.and_eq_true]
  refine ⟨canLay_dT F, decide_eq_true ?_⟩
  have h := depth_dT F
  show PyData.depthAll (dT F) + 1 ≤ 64
  omega
theorem dpAll_dT {K : PySem.W.Frag} {H : Hp} : ∀ {ps : List Addr} {F : Tb}, PTs K H ps F → DpAll K H (ps.map V.ref) (dT F)
  | _, _, .nil => .nil
  | _, _, .cons h t => .cons (.tup h (.cons (.str _) (.cons (.str _) .nil))) (dpAll_dT t)
theorem TT.dp {K : PySem.W.Frag} {H : Hp} {a : Addr} {F : Tb} (h : TT K H a F) : Dp K H (.ref a) (.tuple (dT F)) := let ⟨_, h1, h2⟩ := h; .tup (SqT.of h1) (dpAll_dT h2)
/-! ### heads and tables as they are written -/
def ht (h : W) : Str := if h = [] then "-" else tx h
end Hs
namespace Hs
open PySem PySem.Spec PyProof.Rows L2 Hm
theorem perm_map' {α β : Type} {f : α → β} {ys : List β} {l : List α} (p : ys.Perm (l.map f)) : ∃ m : List α, ys = m.map f ∧ m.Perm l := by
  generalize e : l.map f = zs at p
  induction p generalizing l with
  | nil => exact ⟨[], rfl, by rw [List.map_eq_nil_iff.mp e]⟩
  | cons x p ih =>
    cases l with
    | nil => cases e
    | cons a l =>
      rw [List.map_cons] at e
      injection e with e1 e2
      obtain ⟨m, rfl, q⟩ := ih e2
      exact ⟨a :: m, by rw [List.map_cons, e1], q.cons a⟩
  | swap x y l' =>
    match l, e with
    | a :: b :: l, e =>
      rw [List.map_cons, List.map_cons] at e
      injection e with e1 e2
      injection e2 with e2 e3
      exact ⟨b :: a :: l, by rw [List.map_cons, List.map_cons, e1, e2, e3], .swap _ _ _⟩
  | trans p1 p2 ih1 ih2 =>
    obtain ⟨m, rfl, q⟩ := ih2 e
    obtain ⟨m', e', q'⟩ := ih1 rfl
    exact ⟨m', e', q'.trans q⟩
end Hs

/-! part Kx -/
set_option Elab.async false
set_option linter.all false
set_option maxRecDepth 100000
namespace L2
open PySem PySem.Spec PyProof.Rows
section
variable {X : Cx} {CX : CXT} {k : Nat} {f C : Addr} {fd : FuncData} {ps ks : List Str} {sp : Sp} {E : XK} {m : Str} {pos apos : Pos} {o : Expr} {kws : List Keyword} {ta : TE} {tk : TA} {g : List Value → List Value → List Value} {gV : List V → List V → List V}
end
/-- self and one keyword -/
def g1 {α : Type} (us ws : List α) : List α := match us, ws with
  | [u], [w] => [u, w]
  | _, _ => []
theorem peek_load {α : Type} {K : PySem.W.Frag} {S : Setting} {a : Addr} {o : Obj} {p : Option Value} {k : Obj → Sem α} {r : Option α} (h : K.lookup a = some o) (h2 : PySem.W.peek K S (k o) = r) : PySem.W.peek K S (.load a p k) = r := by
  simp only [PySem.W.peek]
  rw [h]
  exact h2
theorem peek_pure {α : Type} {K : PySem.W.Frag} {S : Setting} {a : α} : PySem.W.peek K S (.pure a) = some a := by
  simp only [PySem.W.peek]
/-- a default of a keyword that is left out -/
theorem kd1 {K : PySem.W.Frag} {fd : FuncData} {p0 p1 : Str} {v : Value} (h : ∀ (S : Setting) (u : Value), PySem.W.peek K S (bindArgs fd ⟨[u], []⟩) = some [(p0, u), (p1, v)]) : Binds K fd [p0, p1] [v] := by
  intro s us hK hl
  have hl1 : us.length = 1 := by rw [List.length_append] at hl; simpa using hl
  obtain ⟨u, rfl⟩ := List.length_eq_one_iff.mp hl1
  exact fun M A E Q hq => (PySem.W.Looks.of_peek hK (h _ u)).here hq
end L2

/-! part Dd -/
set_option Elab.async false
set_option linter.all false
set_option maxRecDepth 100000
namespace Hs
open PySem PySem.Spec PyProof.Rows L2 Hm
/-! ### a def with defaults by place -/
structure FunD (K : PySem.W.Frag) (x qual : Str) (st : Stmt) (dV : Value) (f : Addr) (fd : FuncData) : Prop where
  ex : ∃ (oc : Value) (od : Option Addr) (kV doc pm : Value) (an : Option Addr) (cdv ct : Value) (osl : Array (Option Value)),
    fd = PySem.W.fnOf x qual (defArgs st) (defBody st) (defScope st) dV kV doc pm an cdv ct ∧ K.lookup f = some ⟨oc, od, .func fd, osl⟩ ∧ PySem.W.codeIn K cdv qual = true
  kp : PySem.W.keepIn K (.ref f) = true
section
variable {P : Program} {w : World} {K : PySem.W.Frag} {mg : Str → Option Value} {base : Heap}
theorem FunD.ok {x qual : Str} {st : Stmt} {dV : Value} {f : Addr} {fd : FuncData} {N ps : List Str} {k : Nat} {sp : Sp} (F : FunD K x qual st dV f fd) (S : FnScope N ps (defScope st)) (len : ∀ vs H Q E, sp vs H Q E → vs.length = ps.length)
    (hbody : ∀ (cdv : Value) (A : Around) (outer : List Env) (s : Shared) (H : Hp) (vs : List V) (Q : VK) (E : XK), Room k (A.deeper (envOfC qual (defScope st) s.heap.objs.size f cdv)) → sp vs H Q E →
      ∃ t, PSs (cxOf CX0 P w K mg base N qual (defScope st) f cdv A outer s H E).nox (defBody st) t ∧ t { nx := fun _ H' => Q .non H', rt := Q } (start N vs) H) : FnOk P w K mg base CX0 (k + 1) f fd ps sp := by
  obtain ⟨oc, od, kV, doc, pm, an, cdv, ct, osl, rfl, lk, hcd⟩ := F.ex
  refine fn_of lk hcd S len fun A outer s H vs Q E hr hsp => ?_
  obtain ⟨t, h, q⟩ := hbody cdv A outer s H vs Q E hr hsp
  exact ⟨t, h.nox, q⟩
theorem funD_mk {x qual : Str} {st : Stmt} {dV : Value} {f : Addr} {oc : Value} {od an : Option Addr} {osl : Array (Option Value)} {kV doc pm cdv ct : Value} (l : K.lookup f = some ⟨oc, od, .func (PySem.W.fnOf x qual (defArgs st) (defBody st) (defScope st) dV kV doc pm an cdv ct), osl⟩)
    (c : PySem.W.codeIn K cdv qual = true) (k : PySem.W.keepIn K (.ref f) = true) : FunD K x qual st dV f (PySem.W.fnOf x qual (defArgs st) (defBody st) (defScope st) dV kV doc pm an cdv ct) := ⟨⟨oc, od, kV, doc, pm, an, cdv, ct, osl, rfl, l, c⟩, k⟩
end
theorem kd2 {K : PySem.W.Frag} {fd : FuncData} {p0 p1 : Str} (h : ∀ (S : Setting) (u v : Value), PySem.W.peek K S (bindArgs fd ⟨[u, v], []⟩) = some [(p0, u), (p1, v)]) : Binds K fd [p0, p1] [] := by
  intro s us hk hl
  match us, hl with
  | [u, v], _ => exact fun M A E Q hq => (PySem.W.Looks.of_peek hk (h _ u v)).here hq
end Hs

/-! part K14a -/
set_option Elab.async false
set_option linter.all false
set_option maxRecDepth 100000
namespace Hs
open PySem L2
def top (i : Nat) : Stmt := PySem.Challenge.pw_headswap_k14_powers.main.body.getD i (.Pass ⟨0, 0, 0, 0⟩)
abbrev sOpen : Stmt := top 61
abbrev sDraw : Stmt := top 62
/-- the built-in names that stand as Python has them -/
structure Txt (mg : Str → Option Value) : Prop where
  abs : mg "abs" = none
  len : mg "len" = none
  list : mg "list" = none
  range : mg "range" = none
  isinstance : mg "isinstance" = none
  int : mg "int" = none
  bool : mg "bool" = none
  str : mg "str" = none
  tuple : mg "tuple" = none
  all : mg "all" = none
  max : mg "max" = none
  min : mg "min" = none
  sorted : mg "sorted" = none
  zip : mg "zip" = none
  enumerate : mg "enumerate" = none
  dict : mg "dict" = none
  repr : mg "repr" = none
/-- the box of draws stands at b -/
def boxL (la : Addr) (i z sd c : Int) : List V := [.ref la, .int i, .int z, .int sd, .int c]
structure Box (H : Hp) (b la : Addr) : Prop where
  ex : ∃ (ns : List Int) (i z sd c : Int), H la = some (.lst (ns.map V.int)) ∧ H b = some (.lst (boxL la i z sd c)) ∧ 0 ≤ i ∧ 0 ≤ sd ∧ sd < 2147483647
/-- all but b is as it was -/
def But (b : Addr) (H H' : Hp) : Prop := ∀ c o, c ≠ b → H c = some o → H' c = some o
theorem But.refl (b : Addr) (H : Hp) : But b H H := fun _ _ _ h => h
theorem But.trans {b : Addr} {H H1 H2 : Hp} (x : But b H H1) (y : But b H1 H2) : But b H H2 := fun c o n h => y c o n (x c o n h)
theorem But.of {b : Addr} {H H' : Hp} (x : Same H H') : But b H H' := fun c o _ h => x c o h
theorem But.upd {b : Addr} {H : Hp} {o : HO} : But b H (upd H b o) := fun c u n h => by rw [upd_ne n]; exact h
theorem But.new {b p : Addr} {H : Hp} {o : HO} (hp : H p = none) : But b H (L2.upd H p o) := fun c u _ h => by rw [upd_ne (ne_of_none h hp)]; exact h
theorem Same.new {p : Addr} {H : Hp} {o : HO} (hp : H p = none) : Same H (L2.upd H p o) := fun c u h => by rw [upd_ne (ne_of_none h hp)]; exact h
theorem la_ne {H : Hp} {la b : Addr} {ns : List Int} {i z sd c : Int} (h1 : H la = some (.lst (ns.map V.int))) (h2 : H b = some (.lst (boxL la i z sd c))) : la ≠ b := by
  refine ne_of h1 h2 fun e => ?_
  have e := HO.lst.inj e
  cases ns with
  | nil => cases e
  | cons n r => exact nomatch (List.cons.inj e).1
theorem Box.keep {H H' : Hp} {b la : Addr} (B : Box H b la) (k : Same H H') : Box H' b la := by
  obtain ⟨ns, i, z, sd, c, h1, h2, h3⟩ := B.ex
  exact ⟨ns, i, z, sd, c, k _ _ h1, k _ _ h2, h3⟩
theorem Box.upd {H : Hp} {b la p : Addr} {o : HO} (B : Box H b la) (n1 : p ≠ b) (n2 : p ≠ la) : Box (L2.upd H p o) b la := by
  obtain ⟨ns, i, z, sd, c, h1, h2, h3⟩ := B.ex
  exact ⟨ns, i, z, sd, c, by rw [upd_ne n2.symm]; exact h1, by rw [upd_ne n1.symm]; exact h2, h3⟩
theorem Box.new {H : Hp} {b la p : Addr} (B : Box H b la) (h : H p = none) : p ≠ b ∧ p ≠ la := by
  obtain ⟨ns, i, z, sd, c, h1, h2, h3⟩ := B.ex
  exact ⟨(ne_of_none h2 h).symm, (ne_of_none h1 h).symm⟩
theorem But.free {H H' : Hp} {b la p : Addr} (k : But b H H') (B : Box H' b la) (h : H' p = none) : H p = none := by
  cases q : H p with
  | none => rfl
  | some o => have := k p o (B.new h).1 q; rw [h] at this; cases this
theorem But.set {H H' : Hp} {b p : Addr} {o : HO} (k : But b H H') (h : H p = none) : But b H (L2.upd H' p o) := fun c u n e => by rw [upd_ne (ne_of_none e h)]; exact k c u n e
def spOpen (K : PySem.W.Frag) : Sp := fun vs H Q _ => ∃ (a : Addr) (ns : List Int), vs = [.ref a] ∧ SqL K H a (ns.map V.int) ∧ ∀ b la H', H b = none → H la = none → Same H H' → Box H' b la → Q (.ref b) H'
def spDraw : Sp := fun vs H Q _ => ∃ (b la : Addr) (m : Int), vs = [.ref b, .int m] ∧ Box H b la ∧ 0 < m ∧ m < 1073741824 ∧ ∀ r H', 0 ≤ r → r < m → But b H H' → Box H' b la → Q (.int r) H'
section
variable {P : Program} {w : World} {K : PySem.W.Frag} {mg : Str → Option Value} {base : Heap}
theorem scD : FnScope ["_law_box", "_law_many", "_law_cell", "_law_got", "_law_base"] ["_law_box", "_law_many"] (defScope sDraw) := ⟨rfl, rfl, rfl, by decide +kernel, rfl, by decide +kernel, by decide +kernel⟩
/-- a statement and what stands behind it, by what holds between them -/
theorem seq_gen {t u : TS} {D : Ends} {σ : St} {H : Hp} (R : St → Hp → Prop) (h1 : ∀ nx : St → Hp → Prop, (∀ σ' H', R σ' H' → nx σ' H') → t { D with nx := nx } σ H) (h2 : ∀ σ' H', R σ' H' → u D σ' H') : tSeq t u D σ H := h1 _ h2
theorem ok_draw {f : Addr} {fd : FuncData} (F : Fun K "_law_draw" "_law_draw" sDraw f fd) (T : Txt mg) : FnOk P w K mg base CX0 1 f fd ["_law_box", "_law_many"] spDraw := by
  refine F.ok scD (fun vs H Q E h => ?_) (fun cdv A outer s H vs Q E hr h => ?_)
  · obtain ⟨b, la, m, rfl, _⟩ := h
    rfl
  · obtain ⟨b, la, m, rfl, B, m0, m1, k⟩ := h
    refine ⟨_, pss_cons (ps_if (PW.pt (pw_and (pt_cmpR op_lt (pe_ix ix_list (pv 0) pe_int (fun _ _ => rfl)) pe_int (nomark _))
          (pw_and1 (pt_cmpR op_lt (pe_ix ix_list (pv 0) pe_int (fun _ _ => rfl)) (pe_callB call_len_seq (by rfl) T.len PySem.boot_len (pa_cons (pe_ix ix_list (pv 0) pe_int (fun _ _ => rfl)) pa_nil)) (nomark _)))))
        (pss_cons (ps_set (i := 2) scD.nd rfl (Or.inl rfl) (pe_ix ix_list (pe_ix ix_list (pv 0) pe_int (fun _ _ => rfl)) (pe_ix ix_list (pv 0) pe_int (fun _ _ => rfl)) (fun _ _ => rfl)))
        (pss_cons (ps_asg (pe_op op_add (pe_ix ix_list (pv 0) pe_int (fun _ _ => rfl)) pe_int) (pg_sub (pv 0) pe_int set_list))
        (pss_one (ps_if (pt_cmpR op_ge (pv 2) (pe_op op_pow pe_int pe_int) (nomark _))
          (pss_one (ps_asg (pv 2) (pg_sub (pv 0) pe_int set_list)))
          (pss_one (ps_asg (pe_op op_mod (pe_op op_add (pe_ix ix_list (pv 0) pe_int (fun _ _ => rfl)) (pe_op op_mul (pe_op op_mod (pv 2) pe_int) pe_int)) pe_int) (pg_sub (pv 0) pe_int set_list)))))))
        pss_nil)
      (pss_cons (ps_if (pt_cmpR op_gt (pe_ix ix_list (pv 0) pe_int (fun _ _ => rfl)) pe_int (nomark _))
        (pss_cons (ps_set (i := 3) scD.nd rfl (Or.inl rfl) (pe_op op_mod (pe_ix ix_list (pv 0) pe_int (fun _ _ => rfl)) (pv 1)))
        (pss_cons (ps_asg (pe_op op_fdiv (pe_ix ix_list (pv 0) pe_int (fun _ _ => rfl)) (pv 1)) (pg_sub (pv 0) pe_int set_list))
        (pss_one (ps_ret (pv 3))))) pss_nil)
      (pss_cons (ps_asg (pe_op op_add (pe_ix ix_list (pv 0) pe_int (fun _ _ => rfl)) pe_int) (pg_sub (pv 0) pe_int set_list))
      (pss_cons (ps_set (i := 4) scD.nd rfl (Or.inl rfl) (pe_op op_mod (pe_op op_add (pe_ix ix_list (pv 0) pe_int (fun _ _ => rfl)) (pe_op op_mul (pe_ix ix_list (pv 0) pe_int (fun _ _ => rfl)) pe_int)) pe_int))
      (pss_cons (ps_asg (pe_op op_mod (pe_op op_add (pe_op op_add (pe_op op_mul (pe_op op_mod (pe_op op_mul (pv 4) (pv 4)) pe_int) (pe_op op_add (pe_op op_mod (pv 4) pe_int) pe_int)) (pe_op op_mul pe_int (pv 4))) pe_int) pe_int) (pg_sub (pv 0) pe_int set_list))
      (pss_one (ps_ret (pe_op op_mod (pe_op op_add (pe_op op_fdiv (pe_ix ix_list (pv 0) pe_int (fun _ _ => rfl)) pe_int) (pe_op op_mul (pe_op op_mod (pe_ix ix_list (pv 0) pe_int (fun _ _ => rfl)) pe_int) pe_int)) (pv 1)))))))), ?_⟩
    refine seq_gen (fun σ H1 => ∃ x, σ = [some (.ref b), some (.int m), x, none, none] ∧ But b H H1 ∧ Box H1 b la) (fun nx hn => ?_) ?_
    · -- the first if: a cell of the script is taken, or nothing
      obtain ⟨ns, i, z, sd, c, h1, h2, h3, h4, h5⟩ := id B.ex
      have nl := la_ne h1 h2
      refine ⟨_, rfl, b, _, _, _, rfl, rfl, SqL.of h2, rfl, _, _, rfl, rfl, _, rfl, ?_⟩
      refine ite2 (fun _ => ?_) (fun _ => iteF (hn _ _ ⟨_, rfl, But.refl _ _, B⟩))
      refine ⟨_, rfl, b, _, _, _, rfl, rfl, SqL.of h2, rfl, _, rfl, b, _, _, _, rfl, rfl, SqL.of h2, rfl, la, _, rfl, .inl (SqL.of h1), _, _, rfl, rfl, _, rfl, ?_⟩
      refine ite2 (fun q => ?_) (fun _ => hn _ _ ⟨_, rfl, But.refl _ _, B⟩)
      have q : i < ((ns.map V.int).length : Int) := of_decide_eq_true q
      rw [List.length_map] at q
      obtain ⟨j, rfl⟩ := Int.eq_ofNat_of_zero_le h3
      have hj : j < ns.length := by omega
      have e : (ns.map V.int)[j]? = some (.int ns[j]) := by rw [List.getElem?_map, List.getElem?_eq_getElem hj]; rfl
      refine ⟨_, rfl, b, _, _, _, rfl, rfl, SqL.of h2, rfl, _, rfl, b, _, _, _, rfl, rfl, SqL.of h2, rfl, la, _, _, _, rfl, rfl, SqL.of h1, atI_nat e, ?_⟩
      -- box[1] = box[1] + 1
      refine ⟨_, rfl, b, _, _, _, rfl, rfl, SqL.of h2, rfl, _, _, rfl, rfl, _, rfl, b, _, _, 1, rfl, rfl, h2, rfl, ?_⟩
      refine ⟨_, rfl, _, _, rfl, rfl, ⟨by decide, by decide, by decide⟩, _, _, rfl, rfl, _, rfl, ?_⟩
      refine ite2 (fun _ => ?_) (fun _ => ?_)
      · refine ⟨_, rfl, _, rfl, b, _, _, 2, rfl, rfl, upd_same, rfl, ?_⟩
        refine hn _ _ ⟨_, rfl, But.trans But.upd But.upd, ⟨ns, _, _, _, _, ?_, upd_same, ?_, h4, h5⟩⟩
        · rw [upd_ne nl, upd_ne nl]; exact h1
        · omega
      · refine ⟨_, rfl, b, _, _, _, rfl, rfl, SqL.of upd_same, rfl, _, rfl, _, _, rfl, rfl, (by show (0 : Int) < 2147483629; decide), _, _, rfl, rfl, .inr ⟨by decide, by decide⟩, _, _, rfl, rfl, _, _, rfl, rfl, (by show (0 : Int) < 2147483647; decide), _, rfl, b, _, _, 3, rfl, rfl, upd_same, rfl, ?_⟩
        refine hn _ _ ⟨_, rfl, But.trans But.upd But.upd, ⟨ns, _, _, _, _, ?_, upd_same, ?_, Int.emod_nonneg _ (by decide), Int.emod_lt_of_pos _ (by decide)⟩⟩
        · rw [upd_ne nl, upd_ne nl]; exact h1
        · omega
    · rintro σ H1 ⟨x, rfl, kp, B1⟩
      obtain ⟨ns, i, z, sd, c, h1, h2, h3, h4, h5⟩ := id B1.ex
      have nl := la_ne h1 h2
      refine ⟨_, rfl, b, _, _, _, rfl, rfl, SqL.of h2, rfl, _, _, rfl, rfl, _, rfl, ?_⟩
      refine ite2 (fun _ => ?_) (fun _ => ?_)
      · refine ⟨_, rfl, b, _, _, _, rfl, rfl, SqL.of h2, rfl, _, rfl, _, _, rfl, rfl, m0, ?_⟩
        refine ⟨_, rfl, b, _, _, _, rfl, rfl, SqL.of h2, rfl, _, rfl, _, _, rfl, rfl, ⟨m0, m1⟩, _, rfl, b, _, _, 2, rfl, rfl, h2, rfl, ?_⟩
        refine ⟨_, rfl, ?_⟩
        refine k _ _ (Int.emod_nonneg _ (by omega)) (Int.emod_lt_of_pos _ m0) (kp.trans But.upd) ⟨ns, _, _, _, _, ?_, upd_same, h3, h4, h5⟩
        rw [upd_ne nl]; exact h1
      · refine ⟨_, rfl, b, _, _, _, rfl, rfl, SqL.of h2, rfl, _, _, rfl, rfl, _, rfl, b, _, _, 4, rfl, rfl, h2, rfl, ?_⟩
        refine ⟨_, rfl, b, _, _, _, rfl, rfl, SqL.of upd_same, rfl, _, rfl, b, _, _, _, rfl, rfl, SqL.of upd_same, rfl, _, _, rfl, rfl, .inr ⟨by decide, by decide⟩, _, _, rfl, rfl, _, _, rfl, rfl, (by show (0 : Int) < 2147483647; decide), ?_⟩
        have g0 : 0 ≤ (sd + (c + 1) * 7919) % 2147483647 := Int.emod_nonneg _ (by decide)
        have g1 : (sd + (c + 1) * 7919) % 2147483647 < 2147483647 := Int.emod_lt_of_pos _ (by decide)
        refine ⟨_, rfl, _, rfl, _, _, rfl, rfl, .inl ⟨by omega, by omega⟩, _, _, rfl, rfl, (by show (0 : Int) < 2147483629; decide), _, rfl, _, _, rfl, rfl, (by show (0 : Int) < 65521; decide), _, _, rfl, rfl, _, _, rfl, rfl,
          .inl ⟨Int.lt_of_lt_of_le (by decide) (Int.emod_nonneg _ (by decide)), Int.lt_trans (Int.emod_lt_of_pos _ (by decide)) (by decide)⟩, _, rfl, _, _, rfl, rfl, .inl ⟨by decide, by decide⟩, _, _, rfl, rfl, _, _, rfl, rfl, _, _, rfl, rfl, (by show (0 : Int) < 2147483647; decide),
          _, rfl, b, _, _, 3, rfl, rfl, upd_same, rfl, ?_⟩
        refine ⟨_, rfl, b, _, _, _, rfl, rfl, SqL.of upd_same, rfl, _, _, rfl, rfl, ⟨by decide, by decide⟩, _, rfl, b, _, _, _, rfl, rfl, SqL.of upd_same, rfl, _, _, rfl, rfl, (by show (0 : Int) < 8191; decide), _, _, rfl, rfl, .inr ⟨by decide, by decide⟩, _, _, rfl, rfl, _, rfl, _, _, rfl, rfl, m0, ?_⟩
        refine k _ _ (Int.emod_nonneg _ (by omega)) (Int.emod_lt_of_pos _ m0) (kp.trans (But.trans But.upd But.upd)) ⟨ns, _, _, _, _, ?_, upd_same, h3, Int.emod_nonneg _ (by decide), Int.emod_lt_of_pos _ (by decide)⟩
        rw [upd_ne nl, upd_ne nl]; exact h1
end
end Hs

/-! part K14b -/
set_option Elab.async false
set_option linter.all false
set_option maxRecDepth 100000
namespace Hs
open PySem L2
abbrev sInt : Stmt := top 63
abbrev sLike : Stmt := top 64
theorem cutV_map {α : Type} (f : α → V) (l : List α) (lo hi : Option Int) : cutV (l.map f) lo hi = ((l.drop (HT.sIx l.length 0 lo)).take (HT.sIx l.length l.length hi - HT.sIx l.length 0 lo)).map f := by
  unfold cutV
  rw [List.length_map, List.map_take, List.map_drop]
section
variable {X : Cx}
def clsVal : V → Value
  | .ty n => .type n
  | .ref a => .ref a
  | _ => .none
theorem clsVal_of {c : V} {u : Value} (r : RelV c u) (h : clsVal c ≠ .none) : u = clsVal c := by
  cases c <;> first | exact r | exact absurd rfl h
/-- isinstance(x, c) -/
theorem call_isinst : CallR X (.builtin "isinstance") (fun xs H Q => ∃ x c t b, xs = [x, c] ∧ TyOf X.K H x t ∧ clsVal c ≠ .none ∧ PySem.W.kitOne X.K t (clsVal c) = some b ∧ Q (.bl b) H) := by
  intro pins s σ H xs us Q I r h
  obtain ⟨x, c, t, b, rfl, ty, nc, e, q⟩ := h
  cases r with
  | cons r1 r2 =>
    cases r2 with
    | cons r2 r3 =>
      cases r3
      rw [clsVal_of r2 nc]
      exact isinst_ok I r1 ty e fun tk => ⟨.bl b, H, I.tok tk, rfl, q⟩
end
theorem b_int : bootBuiltins "int" = some (.type "int") := by decide +kernel
theorem b_bool : bootBuiltins "bool" = some (.type "bool") := by decide +kernel
theorem b_str : bootBuiltins "str" = some (.type "str") := by decide +kernel
theorem b_tuple : bootBuiltins "tuple" = some (.type "tuple") := by decide +kernel
theorem b_list : bootBuiltins "list" = some (.type "list") := by decide +kernel
theorem b_isi : bootBuiltins "isinstance" = some (.builtin "isinstance") := by decide +kernel
theorem b_all : bootBuiltins "all" = some (.builtin "all") := by decide +kernel
section
variable {X : Cx}
theorem pe_bty {x : Str} {n : String} {pos : Pos} (hg : Gl X x) (hm : X.mg x = none) (hv : bootBuiltins x = some (.type n)) (hn : x ≠ "__name__" := by decide) (hd : (x == ("__debug__" : Str)) = false := by decide) : PE X (.Name x pos) (tC (.ty n)) := pe_bltn hg hm hv rfl hn hd
end
/-- isinstance among the built-in classes -/
def kitB (t c : String) : Option Bool := if (Value.type t == Value.type c) = true then some true else if PySem.W.kitMeta c = true then (fastBuiltinMro t).map (·.contains (.type c)) else none
theorem kitB_eq (K : PySem.W.Frag) (t c : String) : PySem.W.kitOne K (.type t) (.type c) = kitB t c := rfl
/-- two values that are like: the same flat value, or two lists, or two tuples, of like things -/
def Lk (H : Hp) : Nat → V → V → Prop
  | 0, x, y => x = y ∧ flatV x = true
  | n + 1, x, y => (x = y ∧ flatV x = true) ∨ ∃ a b xs ys, x = .ref a ∧ y = .ref b ∧ ((H a = some (.lst xs) ∧ H b = some (.lst ys)) ∨ (H a = some (.tup xs) ∧ H b = some (.tup ys))) ∧ xs.length = ys.length ∧ ys.length ≤ 1000000 ∧
      ∀ (i : Nat) x' y', xs[i]? = some x' → ys[i]? = some y' → Lk H n x' y'
theorem Lk.keep {H H' : Hp} (k : Same H H') : ∀ {n : Nat} {x y : V}, Lk H n x y → Lk H' n x y
  | 0, _, _, h => h
  | n + 1, _, _, .inl h => .inl h
  | n + 1, _, _, .inr ⟨a, b, xs, ys, e1, e2, h, l, z, q⟩ => .inr ⟨a, b, xs, ys, e1, e2, h.imp (fun z => ⟨k _ _ z.1, k _ _ z.2⟩) (fun z => ⟨k _ _ z.1, k _ _ z.2⟩), l, z, fun i x' y' h1 h2 => (q i x' y' h1 h2).keep k⟩
def spInt : Sp := fun vs H Q _ => ∃ i, vs = [.int i] ∧ Q (.bl true) H
def spLike (n : Nat) : Sp := fun vs H Q _ => ∃ x y, vs = [x, y] ∧ Lk H n x y ∧ ∀ H', Same H H' → Q (.bl true) H'
section
variable {P : Program} {w : World} {K : PySem.W.Frag} {mg : Str → Option Value} {base : Heap}
theorem scO : FnScope ["_law_script", "_law_seed", "_law_cell"] ["_law_script"] (defScope sOpen) := ⟨rfl, rfl, rfl, by decide +kernel, rfl, by decide +kernel, by decide +kernel⟩
theorem ok_open {f : Addr} {fd : FuncData} (F : Fun K "_law_open" "_law_open" sOpen f fd) (T : Txt mg) : FnOk P w K mg base CX0 1 f fd ["_law_script"] (spOpen K) := by
  refine F.ok scO (fun vs H Q E h => ?_) (fun cdv A outer s H vs Q E hr h => ?_)
  · obtain ⟨a, ns, rfl, _⟩ := h
    rfl
  · obtain ⟨a, ns, rfl, hS, k⟩ := h
    refine ⟨_, pss_cons (ps_set (i := 1) scO.nd rfl (Or.inl rfl) pe_int)
      (pss_cons (ps_for PassesOwn.never rfl (pi_list (pe_slice sl_list (pv 0) po_none (po_some pe_int))) (pg_name (i := 2) scO.nd rfl (Or.inl rfl))
        (pss_one (ps_set (i := 1) scO.nd rfl (Or.inl rfl) (pe_op op_mod (pe_op op_add (pe_op op_add (pe_op op_mul (pv 1) pe_int) (pe_op op_mod (pv 2) pe_int)) pe_int) pe_int))))
      (pss_one (ps_ret (pe_lst (pa_cons (pe_callTy call_list_of (by rfl) T.list (by decide +kernel) (pa_cons (pe_slice sl_list (pv 0) po_none (po_some pe_int)) pa_nil)) (pa_cons pe_int (pa_cons pe_int (pa_cons (pv 1) (pa_cons pe_int pa_nil))))))))), ?_⟩
    refine ⟨_, rfl, _, rfl, a, _, rfl, hS, fun p hp => ?_⟩
    rw [cutV_map]
    generalize hms : ((ns.drop (HT.sIx ns.length 0 none)).take (HT.sIx ns.length ns.length (some 63) - HT.sIx ns.length 0 none)) = ms
    refine ⟨p, rfl, ⟨_, SqL.of upd_same⟩, for_list (K := K) (a := p) (xs := ms.map V.int) (fun i σ H1 => ∃ (sd : Int) (v : Option V), σ = [some (.ref a), some (.int sd), v] ∧ 0 ≤ sd ∧ sd < 2147483647 ∧ H1 = upd H p (.lst (ms.map V.int)))
      ⟨1009, none, rfl, by decide, by decide, rfl⟩ (fun i σ H1 _ ⟨_, _, _, _, _, e⟩ => by rw [e]; exact SqL.of upd_same) ?_ ?_⟩
    · rintro i y σ H1 hi ⟨sd, v, rfl, h0, h1, rfl⟩
      obtain ⟨z, rfl⟩ : ∃ z, y = V.int z := by
        rw [List.getElem?_map] at hi
        cases e : ms[i]? with
        | none => rw [e] at hi; cases hi
        | some z => rw [e] at hi; exact ⟨z, (Option.some.inj hi).symm⟩
      refine ⟨_, rfl, _, _, rfl, rfl, .inr ⟨by decide, by decide⟩, _, rfl, _, _, rfl, rfl, (by show (0 : Int) < 2147483629; decide), _, _, rfl, rfl, _, _, rfl, rfl, _, _, rfl, rfl, (by show (0 : Int) < 2147483647; decide), ?_⟩
      exact ⟨_, _, rfl, Int.emod_nonneg _ (by decide), Int.emod_lt_of_pos _ (by decide), rfl⟩
    · rintro σ H1 ⟨sd, v, rfl, h0, h1, rfl⟩
      refine ⟨_, rfl, _, rfl, a, _, rfl, (Same.new hp).seq hS, fun q hq => ?_⟩
      rw [cutV_map, hms]
      refine ⟨q, _, rfl, .inl (SqL.of upd_same), fun l hl => ⟨_, rfl, (by show 5 ≤ sizeLine; decide), fun b hb => ?_⟩⟩
      have s1 : Same H (upd H p (.lst (ms.map V.int))) := Same.new hp
      have s2 := s1.trans (Same.new (o := .lst (ms.map V.int)) hq)
      have s3 := s2.trans (Same.new (o := .lst (ms.map V.int)) hl)
      have s4 := s3.trans (Same.new (o := .lst (boxL l 0 0 sd 0)) hb)
      refine k b l _ (s3.free hb) (s2.free hl) s4 ⟨ms, 0, 0, sd, 0, ?_, upd_same, by decide, h0, h1⟩
      rw [upd_ne (ne_of_none upd_same hb)]
      exact upd_same
theorem scI : FnScope ["_law_found"] ["_law_found"] (defScope sInt) := ⟨rfl, rfl, rfl, by decide +kernel, rfl, by decide +kernel, by decide +kernel⟩
theorem ok_int {f : Addr} {fd : FuncData} (F : Fun K "_law_int" "_law_int" sInt f fd) (T : Txt mg) : FnOk P w K mg base CX0 1 f fd ["_law_found"] spInt := by
  refine F.ok scI (fun vs H Q E h => ?_) (fun cdv A outer s H vs Q E hr h => ?_)
  · obtain ⟨i, rfl, _⟩ := h
    rfl
  · obtain ⟨i, rfl, k⟩ := h
    refine ⟨_, pss_one (ps_ret (pe_and (pe_callB call_isinst (by rfl) T.isinstance (by decide +kernel) (pa_cons (pv 0) (pa_cons (pe_bty (by rfl) T.int b_int) pa_nil)))
      (pe_one (pe_not (pe_callB call_isinst (by rfl) T.isinstance (by decide +kernel) (pa_cons (pv 0) (pa_cons (pe_bty (by rfl) T.bool b_bool) pa_nil))))))), ?_⟩
    refine ⟨_, rfl, _, _, _, true, rfl, .int i, by decide, (kitB_eq K _ _).trans (by decide +kernel), true, rfl, iteT ?_⟩
    exact ⟨_, rfl, _, _, _, false, rfl, .int i, by decide, (kitB_eq K _ _).trans (by decide +kernel), false, rfl, k⟩
end
end Hs

/-! part K14c -/
set_option Elab.async false
set_option linter.all false
set_option maxRecDepth 100000
namespace Hs
open PySem L2
section
variable {P : Program} {w : World} {K : PySem.W.Frag} {mg : Str → Option Value} {base : Heap}
theorem scK : FnScope ["_law_found", "_law_due", "_law_k"] ["_law_found", "_law_due"] (defScope sLike) := ⟨rfl, rfl, rfl, by decide +kernel, rfl, by decide +kernel, by decide +kernel⟩
theorem flat_cases {x : V} (h : flatV x = true) : x = .non ∨ (∃ b, x = .bl b) ∨ (∃ i, x = .int i) ∨ ∃ s, x = .str s := by
  cases x <;> first | exact .inl rfl | exact .inr (.inl ⟨_, rfl⟩) | exact .inr (.inr (.inl ⟨_, rfl⟩)) | exact .inr (.inr (.inr ⟨_, rfl⟩)) | cases h
theorem ok_like {f fi : Addr} {fd fdi : FuncData} (F : Fun K "_law_like" "_law_like" sLike f fd) (FI : Fun K "_law_int" "_law_int" sInt fi fdi) (bI : Binds K fdi ["_law_found"] []) (mI : mg "_law_int" = some (.ref fi)) (bL : Binds K fd ["_law_found", "_law_due"] []) (mL : mg "_law_like" = some (.ref f)) (T : Txt mg) :
    ∀ n, FnOk P w K mg base CX0 (n + 2) f fd ["_law_found", "_law_due"] (spLike n) := by
  have GI : FnOk P w K mg base CX0 1 fi fdi ["_law_found"] spInt := ok_int FI T
  -- the body, over whatever the inner calls promise
  have body : ∀ (n : Nat) (sp' : Sp), FnOk P w K mg base CX0 (n + 1) f fd ["_law_found", "_law_due"] sp' → (∀ vs H Q E, spLike (n - 1) vs H Q E → 0 < n → sp' vs H Q E) → FnOk P w K mg base CX0 (n + 2) f fd ["_law_found", "_law_due"] (spLike n) := by
    intro n sp' GL hsp
    refine F.ok scK (fun vs H Q E h => ?_) (fun cdv A outer s H vs Q E hr h => ?_)
    · obtain ⟨x, y, rfl, _⟩ := h
      rfl
    · obtain ⟨x, y, rfl, L, k⟩ := h
      have hr1 : Room 1 _ := hr.mono (by omega)
      refine ⟨_, pss_cons (ps_if (pt_cmp (pc_isN (pv 1))) (pss_one (ps_ret (pe_cmp (pc_isN (pv 0)) rfl))) pss_nil)
        (pss_cons (ps_if (pt_val (pe_callB call_isinst (by rfl) T.isinstance b_isi (pa_cons (pv 1) (pa_cons (pe_bty (by rfl) T.bool b_bool) pa_nil))))
          (pss_one (ps_ret (pe_and (pe_callB call_isinst (by rfl) T.isinstance b_isi (pa_cons (pv 0) (pa_cons (pe_bty (by rfl) T.bool b_bool) pa_nil))) (pe_one (pe_cmpR op_eq (pv 0) (pv 1) (nomark _)))))) pss_nil)
        (pss_cons (ps_if (pt_val (pe_callB call_isinst (by rfl) T.isinstance b_isi (pa_cons (pv 1) (pa_cons (pe_bty (by rfl) T.int b_int) pa_nil))))
          (pss_one (ps_ret (pe_and (pe_call GI hr1 rfl mI FI.kp bI .nil pass0 (pa_cons (pv 0) pa_nil)) (pe_one (pe_cmpR op_eq (pv 0) (pv 1) (nomark _)))))) pss_nil)
        (pss_cons (ps_if (pt_val (pe_callB call_isinst (by rfl) T.isinstance b_isi (pa_cons (pv 1) (pa_cons (pe_bty (by rfl) T.str b_str) pa_nil))))
          (pss_one (ps_ret (pe_and (pe_callB call_isinst (by rfl) T.isinstance b_isi (pa_cons (pv 0) (pa_cons (pe_bty (by rfl) T.str b_str) pa_nil))) (pe_one (pe_cmpR op_eq (pv 0) (pv 1) (nomark _)))))) pss_nil)
        (pss_cons (ps_if (PW.pt (pw_or (pt_cmpR op_ne (pe_callB call_isinst (by rfl) T.isinstance b_isi (pa_cons (pv 1) (pa_cons (pe_bty (by rfl) T.tuple b_tuple) pa_nil))) (pe_callB call_isinst (by rfl) T.isinstance b_isi (pa_cons (pv 0) (pa_cons (pe_bty (by rfl) T.tuple b_tuple) pa_nil))) (nomark _))
            (pw_or1 (pt_cmpR op_ne (pe_callB call_isinst (by rfl) T.isinstance b_isi (pa_cons (pv 1) (pa_cons (pe_bty (by rfl) T.list b_list) pa_nil))) (pe_callB call_isinst (by rfl) T.isinstance b_isi (pa_cons (pv 0) (pa_cons (pe_bty (by rfl) T.list b_list) pa_nil))) (nomark _)))))
          (pss_one (ps_ret pe_bl)) pss_nil)
        (pss_one (ps_ret (pe_and (pe_cmpR op_eq (pe_callB call_len_seq (by rfl) T.len PySem.boot_len (pa_cons (pv 0) pa_nil)) (pe_callB call_len_seq (by rfl) T.len PySem.boot_len (pa_cons (pv 1) pa_nil)) (nomark _))
          (pe_one (pe_callB (cr_all rfl) (by rfl) T.all b_all (pa_cons
            (pe_lc (own := [("_law_k", 2)]) (g := gName 2) (by rfl) scK.nd (pi_range1 rfl T.range (pa_cons (pe_callB call_len_seq (by rfl) T.len PySem.boot_len (pa_cons (pv 1) pa_nil)) pa_nil))
              (blkOk_by (own := [("_law_k", 2)]) (N := ["_law_found", "_law_due", "_law_k"]) (sc := defScope sLike) (by decide +kernel)) (fun _ _ _ _ _ => pg_name (i := 2) scK.nd rfl (Or.inl rfl)) (fun _ _ _ _ _ => pts_nil)
              (fun _ _ _ _ _ => pe_call GL hr rfl mL F.kp bL .nil pass0 (pa_cons (pe_ix (r := rIx K) ix_seq (pv 0) (pv 2) (fun _ _ => rfl)) (pa_cons (pe_ix (r := rIx K) ix_seq (pv 1) (pv 2) (fun _ _ => rfl)) pa_nil)))) pa_nil)))))))))), ?_⟩
      have cs : (x = y ∧ flatV y = true) ∨ (0 < n ∧ ∃ a b xs ys, x = .ref a ∧ y = .ref b ∧ ((H a = some (.lst xs) ∧ H b = some (.lst ys)) ∨ (H a = some (.tup xs) ∧ H b = some (.tup ys))) ∧ xs.length = ys.length ∧ ys.length ≤ 1000000 ∧
          ∀ (i : Nat) x' y', xs[i]? = some x' → ys[i]? = some y' → Lk H (n - 1) x' y') := by
        cases n with
        | zero => exact .inl ⟨L.1, L.1 ▸ L.2⟩
        | succ n =>
          rcases L with L | ⟨a, b, xs, ys, L⟩
          · exact .inl ⟨L.1, L.1 ▸ L.2⟩
          · exact .inr ⟨Nat.succ_pos _, a, b, xs, ys, L⟩
      rcases cs with ⟨rfl, fl⟩ | ⟨n0, a, b, xs, ys, rfl, rfl, hl, el, zl, q⟩
      · have kT : Q (.bl (decide (x = x))) H := by rw [decide_eq_true rfl]; exact k H (Same.refl H)
        rcases flat_cases fl with rfl | ⟨b, rfl⟩ | ⟨i, rfl⟩ | ⟨z, rfl⟩
        · exact ⟨_, rfl, true, rfl, iteT ⟨_, rfl, kT⟩⟩
        · exact ⟨_, rfl, false, rfl, iteF ⟨_, rfl, _, _, _, true, rfl, .bl b, by decide, (kitB_eq K _ _).trans (by decide +kernel), true, rfl, iteT
            ⟨_, rfl, _, _, _, true, rfl, .bl b, by decide, (kitB_eq K _ _).trans (by decide +kernel), true, rfl, iteT ⟨_, rfl, _, rfl, rfl, kT⟩⟩⟩⟩
        · exact ⟨_, rfl, false, rfl, iteF ⟨_, rfl, _, _, _, false, rfl, .int i, by decide, (kitB_eq K _ _).trans (by decide +kernel), false, rfl, iteF
            ⟨_, rfl, _, _, _, true, rfl, .int i, by decide, (kitB_eq K _ _).trans (by decide +kernel), true, rfl, iteT ⟨_, rfl, i, rfl, true, rfl, iteT ⟨_, rfl, _, rfl, rfl, kT⟩⟩⟩⟩⟩
        · exact ⟨_, rfl, false, rfl, iteF ⟨_, rfl, _, _, _, false, rfl, .str z, by decide, (kitB_eq K _ _).trans (by decide +kernel), false, rfl, iteF
            ⟨_, rfl, _, _, _, false, rfl, .str z, by decide, (kitB_eq K _ _).trans (by decide +kernel), false, rfl, iteF ⟨_, rfl, _, _, _, true, rfl, .str z, by decide, (kitB_eq K _ _).trans (by decide +kernel), true, rfl, iteT
              ⟨_, rfl, _, _, _, true, rfl, .str z, by decide, (kitB_eq K _ _).trans (by decide +kernel), true, rfl, iteT ⟨_, rfl, _, rfl, rfl, kT⟩⟩⟩⟩⟩⟩
      · -- two lists, or two tuples
        have hx : SqL K H a xs ∨ SqT K H a xs := hl.imp (fun z => SqL.of z.1) fun z => SqT.of z.1
        have hy : SqL K H b ys ∨ SqT K H b ys := hl.imp (fun z => SqL.of z.2) fun z => SqT.of z.2
        obtain ⟨t, ta, tb, ht⟩ : ∃ t : String, TyOf K H (.ref a) (.type t) ∧ TyOf K H (.ref b) (.type t) ∧ (t = "list" ∨ t = "tuple") := by
          rcases hl with ⟨h1, h2⟩ | ⟨h1, h2⟩
          · exact ⟨_, .lst h1, .lst h2, .inl rfl⟩
          · exact ⟨_, .tup h1, .tup h2, .inr rfl⟩
        have e1 : kitB t "bool" = some false := by rcases ht with rfl | rfl <;> decide +kernel
        have e2 : kitB t "int" = some false := by rcases ht with rfl | rfl <;> decide +kernel
        have e3 : kitB t "str" = some false := by rcases ht with rfl | rfl <;> decide +kernel
        obtain ⟨b4, e4⟩ : ∃ b, kitB t "tuple" = some b := by
          rcases ht with rfl | rfl
          · exact ⟨false, by decide +kernel⟩
          · exact ⟨true, by decide +kernel⟩
        obtain ⟨b5, e5⟩ : ∃ b, kitB t "list" = some b := by
          rcases ht with rfl | rfl
          · exact ⟨true, by decide +kernel⟩
          · exact ⟨false, by decide +kernel⟩
        refine ⟨_, rfl, false, rfl, iteF ⟨_, rfl, _, _, _, false, rfl, tb, by decide, (kitB_eq K _ _).trans e1, false, rfl, iteF ⟨_, rfl, _, _, _, false, rfl, tb, by decide, (kitB_eq K _ _).trans e2, false, rfl, iteF
          ⟨_, rfl, _, _, _, false, rfl, tb, by decide, (kitB_eq K _ _).trans e3, false, rfl, iteF ?_⟩⟩⟩⟩
        refine ⟨_, rfl, _, _, _, b4, rfl, tb, by decide, (kitB_eq K _ _).trans e4, _, rfl, _, _, _, b4, rfl, ta, by decide, (kitB_eq K _ _).trans e4, rfl, _, rfl, iteNS rfl ?_⟩
        refine ⟨_, rfl, _, _, _, b5, rfl, tb, by decide, (kitB_eq K _ _).trans e5, _, rfl, _, _, _, b5, rfl, ta, by decide, (kitB_eq K _ _).trans e5, rfl, _, rfl, iteNS rfl ?_⟩
        refine ⟨_, rfl, a, xs, rfl, hx, _, rfl, b, ys, rfl, hy, rfl, true, congrArg V.bl (decide_eq_true (by rw [el])), iteT ?_⟩
        refine ⟨_, rfl, b, ys, rfl, hy, (ys.length : Int), rfl, by omega, by omega, fun D hD => ?_⟩
        have at_x : ∀ {H1 : Hp} {i : Nat} {v : V} {R : VK}, Same H H1 → xs[i]? = some v → R v H1 → rIx K (.ref a) (.int (0 + (i : Int))) H1 R := fun {H1 i v R} s1 e r => by
          rcases hl with ⟨h1, _⟩ | ⟨h1, _⟩
          · exact .inl ⟨a, xs, _, v, rfl, rfl, SqL.of (s1 _ _ h1), at_of (by omega) e, r⟩
          · exact .inr (.inl ⟨a, xs, _, v, rfl, rfl, SqT.of (s1 _ _ h1), at_of (by omega) e, r⟩)
        have at_y : ∀ {H1 : Hp} {i : Nat} {v : V} {R : VK}, Same H H1 → ys[i]? = some v → R v H1 → rIx K (.ref b) (.int (0 + (i : Int))) H1 R := fun {H1 i v R} s1 e r => by
          rcases hl with ⟨_, h1⟩ | ⟨_, h1⟩
          · exact .inl ⟨b, ys, _, v, rfl, rfl, SqL.of (s1 _ _ h1), at_of (by omega) e, r⟩
          · exact .inr (.inl ⟨b, ys, _, v, rfl, rfl, SqT.of (s1 _ _ h1), at_of (by omega) e, r⟩)
        refine lc_range (lo := 0) (n := ((ys.length : Int)).toNat) (fun i H1 => Same H H1 ∧ H1 D = some (.lst ((List.replicate i true).map V.bl))) ⟨Same.new hD, upd_same⟩ ?_ ?_
        · rintro i H1 hi ⟨s1, hD1⟩
          have hi : i < ys.length := by omega
          have ex : xs[i]? = some xs[i] := List.getElem?_eq_getElem (by omega)
          have ey : ys[i]? = some ys[i] := List.getElem?_eq_getElem hi
          refine ⟨rfl, _, rfl, _, rfl, at_x s1 ex ⟨_, rfl, _, rfl, at_y s1 ey ?_⟩⟩
          refine hsp _ _ _ _ ⟨_, _, rfl, (q i _ _ ex ey).keep s1, fun H2 s2 => ?_⟩ n0
          refine ⟨_, s2 _ _ hD1, ?_, fun c o e => ?_, ?_⟩
          · rw [List.length_map, List.length_replicate]
            exact Nat.lt_of_le_of_lt (Nat.le_trans (Nat.le_of_lt hi) zl) (by decide)
          · rw [upd_ne (ne_of_none e hD)]
            exact s2 _ _ (s1 _ _ e)
          · rw [upd_same, List.replicate_succ', List.map_append]
            rfl
        · rintro H1 ⟨s1, hD1⟩
          refine ⟨D, _, rfl, SqL.of hD1, ?_⟩
          rw [show (List.replicate ((ys.length : Int)).toNat true).all id = true by simp]
          exact k H1 s1
  intro n
  induction n with
  | zero => exact body 0 (fun _ _ _ _ => False) ⟨fun _ _ _ _ h => h.elim, fun _ _ _ _ _ _ _ _ _ _ _ _ _ h => h.elim⟩ fun _ _ _ _ _ h => absurd h (by decide)
  | succ n ih => exact body (n + 1) _ ih fun vs H Q E h _ => h
end
end Hs

/-! part K14d -/
set_option Elab.async false
set_option linter.all false
set_option maxRecDepth 100000
namespace Hs
open PySem L2 Hm
abbrev sCut : Stmt := top 68
abbrev sMix : Stmt := top 69
theorem b_sorted : bootBuiltins "sorted" = some (.builtin "sorted") := by decide +kernel
theorem b_min : bootBuiltins "min" = some (.builtin "min") := by decide +kernel
def spCut : Sp := fun vs H Q _ => ∃ (b la : Addr) (m : Nat), vs = [.ref b, .int (m : Int)] ∧ Box H b la ∧ 1 ≤ m ∧ m ≤ 40 ∧ ∀ p H' l, H p = none → But b H H' → Box H' b la → H' p = some (.lst (tvs l)) → l.length = m → Anti l → (∀ r, den l r) → (∀ x ∈ l, x.length ≤ m) → Q (.ref p) H'
def spMix (K : PySem.W.Frag) : Sp := fun vs H Q _ => ∃ (b la a : Addr) (l : List W), vs = [.ref b, .ref a] ∧ Box H b la ∧ H a = some (.lst (tvs l)) ∧ l.length ≤ 60 ∧ ∀ p H' m, H p = none → But b H H' → Box H' b la → H' p = some (.lst (tvs m)) → m.Perm l → Q (.ref p) H'
theorem seqIndex_of' {k : Int} {n : Nat} (h0 : 0 ≤ k) (hn : k < n) : seqIndex? k n = some k.toNat := by
  have : ixN n k = some k.toNat := by unfold ixN; rw [if_pos h0, if_pos hn]
  exact (ixN_seq this).1
theorem erase_perm {α : Type} {l : List α} {j : Nat} (h : j < l.length) : (l[j] :: l.eraseIdx j).Perm l := by
  rw [List.eraseIdx_eq_take_drop_succ]
  refine (List.perm_middle (a := l[j]) (l₁ := l.take j) (l₂ := l.drop (j + 1))).symm.trans ?_
  rw [List.getElem_cons_drop h, List.take_append_drop]
theorem erase_map {α β : Type} (f : α → β) (l : List α) (j : Nat) : (l.map f).eraseIdx j = (l.eraseIdx j).map f := by
  rw [List.eraseIdx_eq_take_drop_succ, List.eraseIdx_eq_take_drop_succ, List.map_append, List.map_take, List.map_drop]
theorem first_at : ∀ {ns : List Int} {m : Int}, m ∈ ns → ∃ j : Nat, ns[j]? = some m ∧ ∀ q, q < j → ns[q]? ≠ some m
  | a :: ns, m, h => by
    by_cases e : a = m
    · exact ⟨0, by rw [e]; rfl, fun q h => absurd h (Nat.not_lt_zero _)⟩
    · obtain ⟨j, h1, h2⟩ := first_at ((List.mem_cons.mp h).resolve_left fun z => e z.symm)
      refine ⟨j + 1, h1, fun q hq => ?_⟩
      cases q with
      | zero => intro z; exact e (Option.some.inj z)
      | succ q => exact h2 q (by omega)
section
variable {P : Program} {w : World} {K : PySem.W.Frag} {mg : Str → Option Value} {base : Heap}
theorem scC : FnScope ["_law_box", "_law_many", "_law_heads", "_law_step", "_law_at", "_law_sizes", "_law_head"] ["_law_box", "_law_many"] (defScope sCut) := ⟨rfl, rfl, rfl, by decide +kernel, rfl, by decide +kernel, by decide +kernel⟩
theorem ok_cut {f fD : Addr} {fd fdD : FuncData} (F : Fun K "_law_cut" "_law_cut" sCut f fd) (FD : Fun K "_law_draw" "_law_draw" sDraw fD fdD) (bD : Binds K fdD ["_law_box", "_law_many"] []) (mD : mg "_law_draw" = some (.ref fD)) (T : Txt mg) :
    FnOk P w K mg base CX0 2 f fd ["_law_box", "_law_many"] spCut := by
  have GD : FnOk P w K mg base CX0 1 fD fdD ["_law_box", "_law_many"] spDraw := ok_draw FD T
  refine F.ok scC (fun vs H Q E h => ?_) (fun cdv A outer s H vs Q E hr h => ?_)
  · obtain ⟨b, la, m, rfl, _⟩ := h
    rfl
  · obtain ⟨b, la, m, rfl, B, m1, m2, k⟩ := h
    refine ⟨_, pss_cons (ps_set (i := 2) scC.nd rfl (Or.inl rfl) (pe_lst (pa_cons pe_str pa_nil)))
      (pss_cons (ps_for PassesOwn.never rfl (pi_range1 rfl T.range (pa_cons (pe_op op_sub (pv 1) pe_int) pa_nil)) (pg_name (i := 3) scC.nd rfl (Or.inl rfl))
        (pss_cons (ps_set (i := 4) scC.nd rfl (Or.inl rfl) (pe_call GD hr rfl mD FD.kp bD .nil pass0 (pa_cons (pv 0) (pa_cons (pe_callB call_len_seq (by rfl) T.len PySem.boot_len (pa_cons (pv 2) pa_nil)) pa_nil))))
        (pss_cons (ps_if (pt_cmpR op_gt (pe_callB call_len_str (by rfl) T.len PySem.boot_len (pa_cons (pe_ix ix_list (pv 2) (pv 4) (fun _ _ => rfl)) pa_nil)) pe_int (nomark _))
          (pss_cons (ps_setLc (i := 5) (own := [("_law_head", 6)]) (g := gName 6) (by rfl) scC.nd rfl rfl (sw_true rfl rfl rfl (by decide +kernel)) (pi_list (pv 2))
              (blkOk_by (own := [("_law_head", 6)]) (N := ["_law_box", "_law_many", "_law_heads", "_law_step", "_law_at", "_law_sizes", "_law_head"]) (sc := defScope sCut) (by decide +kernel)) (fun _ _ _ _ _ => pg_name (i := 6) scC.nd rfl (Or.inl rfl)) (fun _ _ _ _ _ => pts_nil)
              (fun _ _ _ _ _ => pe_callB call_len_str (by rfl) T.len PySem.boot_len (pa_cons (pv 6) pa_nil)))
          (pss_one (ps_set (i := 4) scC.nd rfl (Or.inl rfl) (pe_bm PySem.F.plainAttrs_list PySem.F.slot_list_index PySem.F.type_list_index mt_index (pv 5) (pa_cons (pe_callB (cr_min rfl) (by rfl) T.min b_min (pa_cons (pv 5) pa_nil)) pa_nil)))))
          pss_nil)
        (pss_cons (ps_set (i := 6) scC.nd rfl (Or.inl rfl) (pe_bm PySem.F.plainAttrs_list PySem.F.slot_list_pop PySem.F.type_list_pop mt_popAt (pv 2) (pa_cons (pv 4) pa_nil)))
        (pss_one (ps_set (i := 2) scC.nd rfl (Or.inl rfl) (pe_op op_cat (pv 2) (pe_lst (pa_cons (pe_op op_add_str (pv 6) pe_str) (pa_cons (pe_op op_add_str (pv 6) pe_str) pa_nil))))))))))
      (pss_one (ps_ret (pe_callB cr_sortedS (by rfl) T.sorted b_sorted (pa_cons (pv 2) pa_nil))))), ?_⟩
    refine ⟨by show 1 ≤ sizeLine; decide, fun p0 hp0 => ?_⟩
    have bn : ∀ {p : Addr}, H p = none → p ≠ b ∧ p ≠ la := fun h => B.new h
    refine ⟨_, rfl, _, _, rfl, rfl, _, rfl, by omega, by omega, for_range (lo := 0) (n := ((m : Int) - 1).toNat) (fun i σ H1 => ∃ (p : Addr) (l : List W) (o3 o4 o5 o6 : Option V), σ = [some (.ref b), some (.int (m : Int)), some (.ref p), o3, o4, o5, o6] ∧
        But b H H1 ∧ Box H1 b la ∧ H p = none ∧ H1 p = some (.lst (tvs l)) ∧ l.length = i + 1 ∧ Anti l ∧ (∀ r, den l r) ∧ ∀ x ∈ l, x.length ≤ i) ?_ ?_ ?_⟩
    · refine ⟨p0, [[]], none, none, none, none, rfl, But.new hp0, B.upd (bn hp0).1 (bn hp0).2, hp0, ?_, rfl, ?_, fun r => ⟨[], .head _, trivial⟩, fun x hx => ?_⟩
      · rw [upd_same]
        show some (HO.lst [V.str _]) = some (HO.lst [V.str (tx [])])
        rw [tx_nil]
      · exact List.pairwise_singleton _ _
      · rw [List.mem_singleton.mp hx]; exact Nat.le_refl _
    · rintro i σ H1 hi ⟨p, l, o3, o4, o5, o6, rfl, kp, B1, hp, hl, len, an, de, sz⟩
      have hsz : ∀ {x : W}, x ∈ l → x.length ≤ 100 := fun h => Nat.le_trans (sz _ h) (by omega)
      refine ⟨_, rfl, _, rfl, p, _, rfl, .inl (SqL.of hl), b, la, _, rfl, B1, by rw [len_tvs]; omega, by rw [len_tvs]; omega, fun r H2 r0 r1 kp2 B2 => ?_⟩
      rw [len_tvs] at r1
      obtain ⟨j, rfl⟩ := Int.eq_ofNat_of_zero_le r0
      have hj : j < l.length := by omega
      have kp' := kp.trans kp2
      have hl2 : H2 p = some (.lst (tvs l)) := kp2 _ _ (bn hp).1 hl
      dsimp only [gName]
      refine seq_gen (fun σ H3 => ∃ (j : Nat) (o3 o5 o6 : Option V), σ = [some (.ref b), some (.int (m : Int)), some (.ref p), o3, some (.int (j : Int)), o5, o6] ∧ j < l.length ∧ Same H2 H3) (fun nx hn => ?_) ?_
      · refine ⟨_, rfl, _, rfl, p, _, _, _, rfl, rfl, SqL.of hl2, atI_nat (at_tvs (List.getElem?_eq_getElem hj)), _, rfl, ?_, _, _, rfl, rfl, _, rfl, ?_⟩
        · rw [tx_len]; exact Nat.le_trans (hsz (List.getElem_mem hj)) (by decide)
        refine ite2 (fun _ => ?_) (fun _ => hn _ _ ⟨j, _, _, _, rfl, hj, Same.refl _⟩)
        refine ⟨_, rfl, p, rfl, ⟨_, SqL.of hl2⟩, fun D hD => ?_⟩
        refine lc_list (K := K) (a := p) (xs := tvs l) (fun i H3 => H3 = upd H2 D (.lst (((l.take i).map fun x => ((x.length : Nat) : Int)).map V.int))) rfl (fun i H3 _ e => by rw [e]; exact SqL.of ((Same.new hD) _ _ hl2)) ?_ ?_
        · rintro i x H3 hx rfl
          obtain ⟨y, hy, rfl⟩ := tvs_at hx
          refine ⟨rfl, _, rfl, _, rfl, ?_, _, upd_same, ?_, ?_⟩
          · rw [tx_len]; exact Nat.le_trans (hsz (List.mem_of_getElem? hy)) (by decide)
          · rw [List.length_map, List.length_map, List.length_take]
            exact Nat.lt_of_le_of_lt (Nat.min_le_right _ _) (small1000 (by omega))
          · rw [upd_upd, List.take_add_one, hy]
            simp [tx_len]
        · rintro H3 rfl
          rw [len_tvs, List.take_length]
          have ne : 0 < (l.map fun x => ((x.length : Nat) : Int)).length := by rw [List.length_map]; omega
          refine ⟨_, rfl, .inl ⟨rfl, _, SqL.of upd_same⟩, _, rfl, D, _, rfl, SqL.of upd_same, ne, fun mn hm hle => ?_⟩
          obtain ⟨j', hj', hfirst⟩ := first_at hm
          refine ⟨D, _, .int mn, j', .int mn, rfl, rfl, SqL.of upd_same, rfl, ?_, ?_, by simp [eqV], fun q z hq hz => ?_, ?_⟩
          · rw [List.all_map]; exact List.all_eq_true.mpr fun _ _ => rfl
          · rw [List.getElem?_map, hj']; rfl
          · rw [List.getElem?_map] at hz
            cases e : (l.map fun x => ((x.length : Nat) : Int))[q]? with
            | none => rw [e] at hz; cases hz
            | some u =>
              rw [e] at hz
              cases hz
              show (u == mn) = false
              exact beq_eq_false_iff_ne.mpr fun e' => hfirst q hq (e' ▸ e)
          · have hjl : j' < l.length := by
              have := (List.getElem?_eq_some_iff.mp hj').1
              rw [List.length_map] at this
              exact this
            exact hn _ _ ⟨j', _, _, _, rfl, hjl, Same.new hD⟩
      · rintro σ H3 ⟨j, o3, o5, o6, rfl, hj, sm⟩
        have hl3 := sm _ _ hl2
        have B3 := B2.keep sm
        have ej : l[j]? = some l[j] := List.getElem?_eq_getElem hj
        have k3 : But b H H3 := kp'.trans (But.of sm)
        refine ⟨_, rfl, .inl ⟨rfl, _, SqL.of hl3⟩, _, rfl, p, _, _, j, _, rfl, rfl, hl3, by omega, by omega, ?_, at_tvs ej, ?_⟩
        · rw [len_tvs]; exact seqIndex_of' (by omega) (by omega)
        have hb1 : l[j].length ≤ 100 := hsz (List.getElem_mem hj)
        have hz1 : ∀ z : Str, z.length = 1 → (tx l[j]).length + z.length ≤ sizeLine := fun z hz => by rw [tx_len, hz]; exact Nat.le_trans (Nat.add_le_add_right hb1 1) (by decide)
        refine ⟨_, rfl, _, rfl, _, _, rfl, rfl, hz1 _ rfl, _, rfl, _, _, rfl, rfl, hz1 _ rfl, by show 2 ≤ sizeLine; decide, fun q hq => ?_⟩
        have nqp : p ≠ q := by
          intro e; subst e; rw [upd_same] at hq; cases hq
        refine ⟨p, q, _, _, rfl, rfl, by rw [upd_ne nqp]; exact upd_same, upd_same, ?_, fun p' hp' => ?_⟩
        · rw [List.length_eraseIdx, len_tvs]
          show _ + 2 ≤ sizeLine
          have : (if j < l.length then l.length - 1 else l.length) ≤ 100 := by split <;> omega
          exact Nat.le_trans (Nat.add_le_add_right this 2) (by decide)
        have k4 : But b H (upd H3 p (.lst ((tvs l).eraseIdx j))) := k3.set hp
        have B4 : Box (upd H3 p (.lst ((tvs l).eraseIdx j))) b la := B3.upd (bn hp).1 (bn hp).2
        have hqH : H q = none := k4.free B4 hq
        have k5 := k4.set (o := .lst [.str (tx l[j] ++ ("0" : Str)), .str (tx l[j] ++ ("1" : Str))]) hqH
        have B5 := B4.upd (o := .lst [.str (tx l[j] ++ ("0" : Str)), .str (tx l[j] ++ ("1" : Str))]) (bn hqH).1 (bn hqH).2
        have hpH : H p' = none := k5.free B5 hp'
        have pm : (l[j] :: l.eraseIdx j).Perm l := erase_perm hj
        refine ⟨p', l.eraseIdx j ++ [l[j] ++ [false], l[j] ++ [true]], _, _, _, _, rfl, k5.set hpH, B5.upd (bn hpH).1 (bn hpH).2, hpH, ?_, ?_, split_anti (an.perm pm.symm), fun r => ?_, fun x hx => ?_⟩
        · rw [upd_same, tx_a0, tx_a1]
          unfold tvs
          rw [List.map_append, erase_map]
          rfl
        · rw [List.length_append, List.length_eraseIdx, if_pos hj, len]
          show i + 1 - 1 + 2 = _
          omega
        · exact (split_den r).mp ((den_perm pm r).mpr (de r))
        · rcases List.mem_append.mp hx with h | h
          · exact Nat.le_succ_of_le (sz x (List.mem_of_mem_eraseIdx h))
          · have := sz _ (List.getElem_mem hj)
            simp only [List.mem_cons, List.not_mem_nil, or_false] at h
            rcases h with rfl | rfl <;> simp <;> omega
    · rintro σ H1 ⟨p, l, o3, o4, o5, o6, rfl, kp, B1, hp, hl, len, an, de, sz⟩
      refine ⟨_, rfl, p, l.map tx, rfl, ?_, by rw [List.length_map]; omega, fun ys q pm so hq => ?_⟩
      · rw [← tvs_eq]; exact SqL.of hl
      obtain ⟨l', rfl, pl⟩ := perm_tx pm
      have hqH : H q = none := kp.free B1 hq
      refine k q _ l' hqH (kp.set hqH) (B1.upd (bn hqH).1 (bn hqH).2) ?_ ?_ (an.perm pl.symm) (fun r => (den_perm pl r).mpr (de r)) fun x hx => Nat.le_trans (sz x (pl.mem_iff.mp hx)) (by omega)
      · rw [upd_same, tvs_eq]
      · rw [pl.length_eq, len]; omega
end
end Hs

/-! part K14kw -/
set_option Elab.async false
set_option linter.all false
set_option maxRecDepth 100000
set_option maxHeartbeats 4000000
namespace Hs
open PySem L2
abbrev sKind : Stmt := top 65
abbrev sWhy : Stmt := top 66
/-- the refusals' classes: where they stand -/
structure XA where
  (cS cL cE c0 c1 c2 c3 c4 c5 c6 c7 c8 c9 c10 c11 c12 c13 c14 c15 : Addr)
structure XM (mg : Str → Option Value) (a : XA) : Prop where
  mS : mg "SwapError" = some (.ref a.cS)
  mL : mg "Lacking" = some (.ref a.cL)
  mE : mg "Held" = some (.ref a.cE)
  m0 : mg "BadHead" = some (.ref a.c0)
  m1 : mg "BadRing" = some (.ref a.c1)
  m2 : mg "BadNumber" = some (.ref a.c2)
  m3 : mg "BadTable" = some (.ref a.c3)
  m4 : mg "NotApart" = some (.ref a.c4)
  m5 : mg "TooGreat" = some (.ref a.c5)
  m6 : mg "BadName" = some (.ref a.c6)
  m7 : mg "Full" = some (.ref a.c7)
  m8 : mg "NoRule" = some (.ref a.c8)
  m9 : mg "BadText" = some (.ref a.c9)
  m10 : mg "Ring" = some (.ref a.c10)
  m11 : mg "Breaks" = some (.ref a.c11)
  m12 : mg "NoName" = some (.ref a.c12)
  m13 : mg "NothingLeft" = some (.ref a.c13)
  m14 : mg "Taken" = some (.ref a.c14)
  m15 : mg "InUse" = some (.ref a.c15)
/-- the marks of a class: of which of the sixteen it is -/
structure XB where
  (b0 b1 b2 b3 b4 b5 b6 b7 b8 b9 b10 b11 b12 b13 b14 b15 : Bool)
structure XK1 (K : PySem.W.Frag) (a : XA) (C : Addr) (b : XB) : Prop where
  cls : XCls K C
  any : PySem.W.exmAny K (.ref C) [.ref a.cS, .ref a.cL, .ref a.cE] = some true
  k0 : PySem.W.kitOne K (.ref C) (.ref a.c0) = some b.b0
  k1 : PySem.W.kitOne K (.ref C) (.ref a.c1) = some b.b1
  k2 : PySem.W.kitOne K (.ref C) (.ref a.c2) = some b.b2
  k3 : PySem.W.kitOne K (.ref C) (.ref a.c3) = some b.b3
  k4 : PySem.W.kitOne K (.ref C) (.ref a.c4) = some b.b4
  k5 : PySem.W.kitOne K (.ref C) (.ref a.c5) = some b.b5
  k6 : PySem.W.kitOne K (.ref C) (.ref a.c6) = some b.b6
  k7 : PySem.W.kitOne K (.ref C) (.ref a.c7) = some b.b7
  k8 : PySem.W.kitOne K (.ref C) (.ref a.c8) = some b.b8
  k9 : PySem.W.kitOne K (.ref C) (.ref a.c9) = some b.b9
  k10 : PySem.W.kitOne K (.ref C) (.ref a.c10) = some b.b10
  k11 : PySem.W.kitOne K (.ref C) (.ref a.c11) = some b.b11
  k12 : PySem.W.kitOne K (.ref C) (.ref a.c12) = some b.b12
  k13 : PySem.W.kitOne K (.ref C) (.ref a.c13) = some b.b13
  k14 : PySem.W.kitOne K (.ref C) (.ref a.c14) = some b.b14
  k15 : PySem.W.kitOne K (.ref C) (.ref a.c15) = some b.b15
def XB.marks (b : XB) : List (Str × Bool) := [("BadHead", b.b0), ("BadRing", b.b1), ("BadNumber", b.b2), ("BadTable", b.b3), ("NotApart", b.b4), ("TooGreat", b.b5), ("BadName", b.b6), ("Full", b.b7), ("NoRule", b.b8), ("BadText", b.b9), ("Ring", b.b10), ("Breaks", b.b11),
  ("NoName", b.b12), ("NothingLeft", b.b13), ("Taken", b.b14), ("InUse", b.b15)]
def XB.word (b : XB) : Str := Str.join " " ((b.marks.filter (·.2)).map (·.1))
/-- the list of marks at m -/
def MarksAt (H : Hp) (m : Addr) (l : List (Str × Bool)) : Prop := ∃ ts : List Addr, H m = some (.lst (ts.map V.ref)) ∧ Paired (fun (t : Addr) (p : Str × Bool) => H t = some (.tup [.str p.1, .bl p.2])) ts l
theorem MarksAt.keep {H H' : Hp} {m : Addr} {l : List (Str × Bool)} (x : MarksAt H m l) (k : Same H H') : MarksAt H' m l := by
  obtain ⟨ts, h1, h2⟩ := x
  exact ⟨ts, k _ _ h1, L2.Paired.mapP h2 fun _ _ e => k _ _ e⟩
theorem Paired.app {α β : Type} {F : α → β → Prop} : ∀ {a c : List α} {b d : List β}, Paired F a b → Paired F c d → Paired F (a ++ c) (b ++ d)
  | _, _, _, _, .nil, s => s
  | _, _, _, _, .cons r t, s => .cons r (Paired.app t s)
theorem Paired.at' {α β : Type} {F : α → β → Prop} : ∀ {a : List α} {b : List β} {i : Nat} {x : α}, Paired F a b → a[i]? = some x → ∃ y, b[i]? = some y ∧ F x y
  | _, _, _, _, .nil, e => by simp at e
  | _, _, 0, _, .cons r _, e => by simp at e; subst e; exact ⟨_, rfl, r⟩
  | _, _, i + 1, x, .cons _ t, e => by
    obtain ⟨u, h1, h2⟩ := Paired.at' (i := i) (x := x) t (by simpa using e)
    exact ⟨u, by simpa using h1, h2⟩
/-- (name, isinstance(e, D)) -/
abbrev tMark (K : PySem.W.Frag) (a C : Addr) (n : Str) (D : Addr) : TE :=
  tTup (tCons (tC (.str n)) (tCons (tCB (fun xs H Q => ∃ D b, xs = [.ref a, .ref D] ∧ PySem.W.kitOne K (.ref C) (.ref D) = some b ∧ Q (.bl b) H) (tCons (tVar 0) (tCons (tC (.ref D)) tNil))) tNil))
theorem mark_one {K : PySem.W.Frag} {a C D : Addr} {n : Str} {b : Bool} {σ : St} {H : Hp} {Q : VK} (h0 : σ[0]? = some (some (.ref a))) (hk : PySem.W.kitOne K (.ref C) (.ref D) = some b) (k : ∀ t, H t = none → Q (.ref t) (upd H t (.tup [.str n, .bl b]))) : tMark K a C n D σ H Q :=
  ⟨_, h0, D, b, rfl, hk, (by show 2 ≤ sizeLine; decide), k⟩
/-- two marks in a list -/
theorem mark_two {K : PySem.W.Frag} {a C D1 D2 : Addr} {n1 n2 : Str} {b1 b2 : Bool} {σ : St} {H : Hp} {Q : VK} (h0 : σ[0]? = some (some (.ref a))) (hk1 : PySem.W.kitOne K (.ref C) (.ref D1) = some b1) (hk2 : PySem.W.kitOne K (.ref C) (.ref D2) = some b2)
    (k : ∀ m H', Same H H' → MarksAt H' m [(n1, b1), (n2, b2)] → Q (.ref m) H') : tLst (tCons (tMark K a C n1 D1) (tCons (tMark K a C n2 D2) tNil)) σ H Q := by
  show tMark K a C n1 D1 σ H fun x H1 => tMark K a C n2 D2 σ H1 fun y H2 => [x, y].length ≤ sizeLine ∧ ∀ p, H2 p = none → Q (.ref p) (upd H2 p (.lst [x, y]))
  refine mark_one h0 hk1 fun t1 e1 => ?_
  refine mark_one h0 hk2 fun t2 e2 => ?_
  refine ⟨by show 2 ≤ sizeLine; decide, fun m em => k m _ ?_ ⟨[t1, t2], upd_same, .cons ?_ (.cons ?_ .nil)⟩⟩
  · exact ((Same.new e1).trans (Same.new e2)).trans (Same.new em)
  · exact (Same.new em) _ _ ((Same.new e2) _ _ upd_same)
  · exact (Same.new em) _ _ upd_same
/-- marks = marks + [.., ..] -/
theorem mark_more {K : PySem.W.Frag} {a C D1 D2 m : Addr} {n1 n2 : Str} {b1 b2 : Bool} {D : Ends} {σ : St} {H : Hp} {l : List (Str × Bool)} (h0 : σ[0]? = some (some (.ref a))) (h1 : σ[1]? = some (some (.ref m))) (M : MarksAt H m l) (hl : l.length ≤ 100)
    (hk1 : PySem.W.kitOne K (.ref C) (.ref D1) = some b1) (hk2 : PySem.W.kitOne K (.ref C) (.ref D2) = some b2)
    (k : ∀ m' H', Same H H' → MarksAt H' m' (l ++ [(n1, b1), (n2, b2)]) → D.nx (σ.set 1 (some (.ref m'))) H') : tAsg (tOp rCat (tVar 1) (tLst (tCons (tMark K a C n1 D1) (tCons (tMark K a C n2 D2) tNil)))) (gName 1) D σ H := by
  refine ⟨_, h1, mark_two h0 hk1 hk2 fun m2 H2 s2 M2 => ?_⟩
  obtain ⟨ts, g1, g2⟩ := M.keep s2
  obtain ⟨us, g3, g4⟩ := M2
  have z1 : ts.length = l.length := g2.length
  have z2 : us.length = 2 := g4.length
  refine ⟨m, m2, _, _, rfl, rfl, g1, g3, ?_, fun m3 e3 => k m3 _ (s2.trans (Same.new e3)) ⟨ts ++ us, by rw [upd_same, List.map_append], ?_⟩⟩
  · rw [List.length_map, List.length_map, z1, z2]
    have : sizeLine ≥ 1000 := by decide
    omega
  · exact Paired.app (L2.Paired.mapP g2 fun _ _ e => (Same.new e3) _ _ e) (L2.Paired.mapP g4 fun _ _ e => (Same.new e3) _ _ e)
theorem mark_S1 {K : PySem.W.Frag} {a C D1 D2 : Addr} {n1 n2 : Str} {b1 b2 : Bool} {D : Ends} {u : TS} {σ : St} {H : Hp} (h0 : σ[0]? = some (some (.ref a))) (hk1 : PySem.W.kitOne K (.ref C) (.ref D1) = some b1) (hk2 : PySem.W.kitOne K (.ref C) (.ref D2) = some b2)
    (k : ∀ m H', Same H H' → MarksAt H' m [(n1, b1), (n2, b2)] → u D (σ.set 1 (some (.ref m))) H') : tSeq (tAsg (tLst (tCons (tMark K a C n1 D1) (tCons (tMark K a C n2 D2) tNil))) (gName 1)) u D σ H :=
  mark_two (Q := fun x H1 => gName 1 x σ H1 (u D)) h0 hk1 hk2 k
theorem mark_S2 {K : PySem.W.Frag} {a C D1 D2 m : Addr} {n1 n2 : Str} {b1 b2 : Bool} {D : Ends} {u : TS} {σ : St} {H : Hp} {l : List (Str × Bool)} (h0 : σ[0]? = some (some (.ref a))) (h1 : σ[1]? = some (some (.ref m))) (M : MarksAt H m l) (hl : l.length ≤ 100)
    (hk1 : PySem.W.kitOne K (.ref C) (.ref D1) = some b1) (hk2 : PySem.W.kitOne K (.ref C) (.ref D2) = some b2)
    (k : ∀ m' H', Same H H' → MarksAt H' m' (l ++ [(n1, b1), (n2, b2)]) → u D (σ.set 1 (some (.ref m'))) H') : tSeq (tAsg (tOp rCat (tVar 1) (tLst (tCons (tMark K a C n1 D1) (tCons (tMark K a C n2 D2) tNil)))) (gName 1)) u D σ H :=
  mark_more (D := { D with nx := u D }) h0 h1 M hl hk1 hk2 k
section
variable {P : Program} {w : World} {K : PySem.W.Frag} {mg : Str → Option Value} {base : Heap}
theorem scKi : FnScope ["_law_e", "_law_marks", "_law_word", "_law_so"] ["_law_e"] (defScope sKind) := ⟨rfl, rfl, rfl, by decide +kernel, rfl, by decide +kernel, by decide +kernel⟩
theorem kind_run {f a C : Addr} {fd : FuncData} {xa : XA} {b : XB} {A : Around} {outer : List Env} {s : Shared} {H : Hp} {Q : VK} {oe : Obj} {vs : Array Value} (F : Fun K "_law_kind" "_law_kind" sKind f fd) (T : Txt mg) (M : XM mg xa) (B : XK1 K xa C b) (bi : Binds K fd ["_law_e"] [])
    (hdp : A.depth < recursionLimit) (e0 : Env0 P w K mg base A outer s H) (hA : A.handled = some (.ref a)) (g1 : s.heap.get? a = some oe) (g2 : oe.cls = .ref C) (g3 : oe.dict = none) (g4 : oe.data = .fields vs) (g5 : vs[2]? = some .none) (g6 : H a = none) (g7 : a ∉ frs outer)
    (k : ∀ H', Same H H' → Q (.str b.word) H') : codeAny (model P w) A (.call (.ref f) ⟨[.ref a], []⟩) (CR CX0 outer P w H s Q E0) s := by
  have KX : K.In s.heap := e0.mod.kin.keeps fun b o e => (e0.bs b o e).1
  refine F.okH scKi hdp e0 (bi s [.ref a] KX rfl) (.cons rfl .nil : Vals [.ref a] [.ref a]) rfl fun cdv => ?_
  have x : Exc (cxH P w K mg base ["_law_e", "_law_marks", "_law_word", "_law_so"] "_law_kind" (defScope sKind) f cdv A outer s H) a C := ⟨oe, vs, g1, g2, g3, g4, g5, g6, g7, fun z => absurd (show a ∈ ([] : List Addr) from z) (by simp)⟩
  have c := call_isexc x B.cls
  have st := x.still hA
  refine ⟨_, pss_cons (ps_set (i := 1) scKi.nd rfl (Or.inl rfl) (pe_lst (pa_cons (pe_tup (pa_cons pe_str (pa_cons (pe_callB c (by rfl) T.isinstance b_isi (pa_cons (pv 0) (pa_cons (pe_glob (v := .ref xa.c0) (by rfl) M.m0 rfl) pa_nil))) pa_nil)))
      (pa_cons (pe_tup (pa_cons pe_str (pa_cons (pe_callB c (by rfl) T.isinstance b_isi (pa_cons (pv 0) (pa_cons (pe_glob (v := .ref xa.c1) (by rfl) M.m1 rfl) pa_nil))) pa_nil))) pa_nil))))
    (pss_cons (ps_set (i := 1) scKi.nd rfl (Or.inl rfl) (pe_op op_cat (pv 1) (pe_lst (pa_cons (pe_tup (pa_cons pe_str (pa_cons (pe_callB c (by rfl) T.isinstance b_isi (pa_cons (pv 0) (pa_cons (pe_glob (v := .ref xa.c2) (by rfl) M.m2 rfl) pa_nil))) pa_nil))) (pa_cons (pe_tup (pa_cons pe_str (pa_cons (pe_callB c (by rfl) T.isinstance b_isi (pa_cons (pv 0) (pa_cons (pe_glob (v := .ref xa.c3) (by rfl) M.m3 rfl) pa_nil))) pa_nil))) pa_nil)))))
    (pss_cons (ps_set (i := 1) scKi.nd rfl (Or.inl rfl) (pe_op op_cat (pv 1) (pe_lst (pa_cons (pe_tup (pa_cons pe_str (pa_cons (pe_callB c (by rfl) T.isinstance b_isi (pa_cons (pv 0) (pa_cons (pe_glob (v := .ref xa.c4) (by rfl) M.m4 rfl) pa_nil))) pa_nil))) (pa_cons (pe_tup (pa_cons pe_str (pa_cons (pe_callB c (by rfl) T.isinstance b_isi (pa_cons (pv 0) (pa_cons (pe_glob (v := .ref xa.c5) (by rfl) M.m5 rfl) pa_nil))) pa_nil))) pa_nil)))))
    (pss_cons (ps_set (i := 1) scKi.nd rfl (Or.inl rfl) (pe_op op_cat (pv 1) (pe_lst (pa_cons (pe_tup (pa_cons pe_str (pa_cons (pe_callB c (by rfl) T.isinstance b_isi (pa_cons (pv 0) (pa_cons (pe_glob (v := .ref xa.c6) (by rfl) M.m6 rfl) pa_nil))) pa_nil))) (pa_cons (pe_tup (pa_cons pe_str (pa_cons (pe_callB c (by rfl) T.isinstance b_isi (pa_cons (pv 0) (pa_cons (pe_glob (v := .ref xa.c7) (by rfl) M.m7 rfl) pa_nil))) pa_nil))) pa_nil)))))
    (pss_cons (ps_set (i := 1) scKi.nd rfl (Or.inl rfl) (pe_op op_cat (pv 1) (pe_lst (pa_cons (pe_tup (pa_cons pe_str (pa_cons (pe_callB c (by rfl) T.isinstance b_isi (pa_cons (pv 0) (pa_cons (pe_glob (v := .ref xa.c8) (by rfl) M.m8 rfl) pa_nil))) pa_nil))) (pa_cons (pe_tup (pa_cons pe_str (pa_cons (pe_callB c (by rfl) T.isinstance b_isi (pa_cons (pv 0) (pa_cons (pe_glob (v := .ref xa.c9) (by rfl) M.m9 rfl) pa_nil))) pa_nil))) pa_nil)))))
    (pss_cons (ps_set (i := 1) scKi.nd rfl (Or.inl rfl) (pe_op op_cat (pv 1) (pe_lst (pa_cons (pe_tup (pa_cons pe_str (pa_cons (pe_callB c (by rfl) T.isinstance b_isi (pa_cons (pv 0) (pa_cons (pe_glob (v := .ref xa.c10) (by rfl) M.m10 rfl) pa_nil))) pa_nil))) (pa_cons (pe_tup (pa_cons pe_str (pa_cons (pe_callB c (by rfl) T.isinstance b_isi (pa_cons (pv 0) (pa_cons (pe_glob (v := .ref xa.c11) (by rfl) M.m11 rfl) pa_nil))) pa_nil))) pa_nil)))))
    (pss_cons (ps_set (i := 1) scKi.nd rfl (Or.inl rfl) (pe_op op_cat (pv 1) (pe_lst (pa_cons (pe_tup (pa_cons pe_str (pa_cons (pe_callB c (by rfl) T.isinstance b_isi (pa_cons (pv 0) (pa_cons (pe_glob (v := .ref xa.c12) (by rfl) M.m12 rfl) pa_nil))) pa_nil))) (pa_cons (pe_tup (pa_cons pe_str (pa_cons (pe_callB c (by rfl) T.isinstance b_isi (pa_cons (pv 0) (pa_cons (pe_glob (v := .ref xa.c13) (by rfl) M.m13 rfl) pa_nil))) pa_nil))) pa_nil)))))
    (pss_cons (ps_set (i := 1) scKi.nd rfl (Or.inl rfl) (pe_op op_cat (pv 1) (pe_lst (pa_cons (pe_tup (pa_cons pe_str (pa_cons (pe_callB c (by rfl) T.isinstance b_isi (pa_cons (pv 0) (pa_cons (pe_glob (v := .ref xa.c14) (by rfl) M.m14 rfl) pa_nil))) pa_nil))) (pa_cons (pe_tup (pa_cons pe_str (pa_cons (pe_callB c (by rfl) T.isinstance b_isi (pa_cons (pv 0) (pa_cons (pe_glob (v := .ref xa.c15) (by rfl) M.m15 rfl) pa_nil))) pa_nil))) pa_nil)))))
    (pss_one (ps_ret (pe_join pe_str (pe_lcS (own := [("_law_word", 2), ("_law_so", 3)]) (g := gTup K 2 (gCons (gName 2) (gCons (gName 3) gNil))) st scKi.nd (pi_listS (pv 1))
      (blkOk_by (own := [("_law_word", 2), ("_law_so", 3)]) (N := ["_law_e", "_law_marks", "_law_word", "_law_so"]) (sc := defScope sKind) (by decide +kernel))
      (fun _ _ _ _ _ sb => pg_tupS sb (pgs_cons (pg_name (i := 2) scKi.nd rfl (Or.inl rfl)) (pgs_cons (pg_name (i := 3) scKi.nd rfl (Or.inl rfl)) pgs_nil)))
      (fun _ _ _ _ _ => pts_one (pt_val (pv 3))) (fun _ _ _ _ _ => pv 2)))))))))))), ?_⟩
  refine mark_S1 (b1 := b.b0) (b2 := b.b1) (σ := [some (.ref a), none, none, none]) rfl B.k0 B.k1 fun m1 H1 s1 M1 => ?_
  refine mark_S2 (b1 := b.b2) (b2 := b.b3) rfl rfl M1 (by simp) B.k2 B.k3 fun m2 H2 s2 M2 => ?_
  refine mark_S2 (b1 := b.b4) (b2 := b.b5) rfl rfl M2 (by simp) B.k4 B.k5 fun m3 H3 s3 M3 => ?_
  refine mark_S2 (b1 := b.b6) (b2 := b.b7) rfl rfl M3 (by simp) B.k6 B.k7 fun m4 H4 s4 M4 => ?_
  refine mark_S2 (b1 := b.b8) (b2 := b.b9) rfl rfl M4 (by simp) B.k8 B.k9 fun m5 H5 s5 M5 => ?_
  refine mark_S2 (b1 := b.b10) (b2 := b.b11) rfl rfl M5 (by simp) B.k10 B.k11 fun m6 H6 s6 M6 => ?_
  refine mark_S2 (b1 := b.b12) (b2 := b.b13) rfl rfl M6 (by simp) B.k12 B.k13 fun m7 H7 s7 M7 => ?_
  refine mark_S2 (b1 := b.b14) (b2 := b.b15) rfl rfl M7 (by simp) B.k14 B.k15 fun m8 H8 s8 M8 => ?_
  obtain ⟨ts, q1, q2⟩ := (show MarksAt H8 m8 b.marks from M8)
  have sm8 : Same H H8 := s1.trans (s2.trans (s3.trans (s4.trans (s5.trans (s6.trans (s7.trans s8))))))
  have ln : ts.length = 16 := q2.length
  refine ⟨⟨_, rfl⟩, _, rfl, m8, rfl, ⟨_, SqL.of q1⟩, fun D hD => ?_⟩
  refine lc_list (K := K) (a := m8) (xs := ts.map V.ref) (fun i H' => Same H8 H' ∧ H' D = some (.lst ((((b.marks.take i).filter (·.2)).map (·.1)).map V.str))) ⟨Same.new hD, upd_same⟩ (fun i H' _ z => SqL.of (z.1 _ _ q1)) ?_ ?_
  · rintro i y H' hy ⟨sm, hD'⟩
    rw [List.getElem?_map] at hy
    cases ht : ts[i]? with
    | none => rw [ht] at hy; cases hy
    | some t =>
      rw [ht] at hy
      obtain rfl : V.ref t = y := Option.some.inj hy
      obtain ⟨⟨n, c⟩, p1, p2⟩ := Paired.at' q2 ht
      refine ⟨t, _, rfl, SqT.of (sm _ _ p2), rfl, _, _, rfl, _, _, rfl, rfl, rfl, _, rfl, c, rfl, ?_⟩
      have tk : b.marks.take (i + 1) = b.marks.take i ++ [(n, c)] := by rw [List.take_add_one, p1]; rfl
      cases c with
      | true =>
        refine iteT ⟨_, rfl, _, hD', ?_, fun d o e => ?_, ?_⟩
        · rw [List.length_map, List.length_map]
          refine Nat.lt_of_le_of_lt (Nat.le_trans (List.length_filter_le _ _) (Nat.le_trans (List.length_take_le _ _) (show i ≤ 1000 from ?_))) (small1000 (Nat.le_refl _))
          have := (List.getElem?_eq_some_iff.mp ht).1
          omega
        · rw [upd_ne (ne_of_none e hD)]
          exact sm _ _ e
        · rw [upd_same, tk, List.filter_append]
          simp
      | false =>
        refine iteF ⟨sm, ?_⟩
        rw [tk, List.filter_append]
        simpa using hD'
  · rintro H' ⟨sm, hD'⟩
    rw [List.length_map, ln] at hD'
    have e16 : b.marks.take 16 = b.marks := rfl
    rw [e16] at hD'
    refine ⟨_, D, _, rfl, rfl, .inl (SqL.of hD'), ?_, ?_⟩
    · have names : ∀ y ∈ ((b.marks.filter (·.2)).map (·.1)), y.length ≤ 20 := fun y hy => by
        obtain ⟨p, hp, rfl⟩ := List.mem_map.mp hy
        have h1 : p.1 ∈ b.marks.map (·.1) := List.mem_map_of_mem (List.mem_filter.mp hp).1
        exact (show ∀ y ∈ (["BadHead", "BadRing", "BadNumber", "BadTable", "NotApart", "TooGreat", "BadName", "Full", "NoRule", "BadText", "Ring", "Breaks", "NoName", "NothingLeft", "Taken", "InUse"] : List Str), y.length ≤ 20 by decide +kernel) _ h1
      have len : ((b.marks.filter (·.2)).map (·.1)).length ≤ 16 := by rw [List.length_map]; exact List.length_filter_le _ _
      have sum : ∀ l : List Str, (∀ y ∈ l, y.length ≤ 20) → (l.map (·.length)).sum ≤ l.length * 20 := fun l => by
        induction l with
        | nil => intro _; simp
        | cons y r ih =>
          intro hy
          have := ih fun z hz => hy z (List.mem_cons_of_mem _ hz)
          have := hy y List.mem_cons_self
          simp only [List.map_cons, List.sum_cons, List.length_cons]
          omega
      have := sum _ names
      have e1 : (" " : Str).length = 1 := by decide +kernel
      rw [e1]
      omega
    · rw [TL.join_eq]
      exact k H' (sm8.trans sm)
end
end Hs

/-! part K14wy -/
set_option Elab.async false
set_option linter.all false
set_option maxRecDepth 100000
set_option maxHeartbeats 4000000
namespace Hs
open PySem L2
/-- the word of a class -/
def KW (K : PySem.W.Frag) (xa : XA) : Value → Str → Prop := fun C word => ∃ (D : Addr) (b : XB), C = .ref D ∧ XK1 K xa D b ∧ word = b.word
section
variable {P : Program} {w : World} {K : PySem.W.Frag} {mg : Str → Option Value} {base : Heap}
theorem scWh : FnScope ["_law_ask", "_law_told", "_law_word", "_law_e"] ["_law_ask"] (defScope sWhy) := ⟨rfl, rfl, rfl, by decide +kernel, rfl, by decide +kernel, by decide +kernel⟩
/-- kind(e) within an except suite -/
theorem pe_kind {X : Cx} {i : Nat} {a C fK : Addr} {oe : Obj} {vs : Array Value} {fdK : FuncData} {xa : XA} {b : XB} {p q pos : Pos} {x : Str} {k : Nat} (FK : Fun X.K "_law_kind" "_law_kind" sKind fK fdK) (bK : Binds X.K fdK ["_law_e"] []) (T : Txt X.mg) (M : XM X.mg xa) (B : XK1 X.K xa C b) (hr : Room k X.A)
    (g2 : oe.cls = .ref C) (g3 : oe.dict = none) (g4 : oe.data = .fields vs) (g5 : vs[2]? = some .none) (hg : Gl X "_law_kind") (mK : X.mg "_law_kind" = some (.ref fK)) (ha : PA (X.hnd a oe) [.Name x q] (tCons (tVar i) tNil)) :
    PE (X.hnd a oe) (.Call (.Name "_law_kind" p) [.Name x q] [] pos) (fun σ H Q => σ[i]? = some (some (.ref a)) ∧ ∀ H', Same H H' → Q (.str b.word) H') := by
  intro pins s σ H Q I h
  obtain ⟨h1, h2⟩ := h
  refine wpAny_Call_Name_kw (ld_glob (X := X.hnd a oe) I hg mK ?_)
  refine PySem.W.callWith_K (h₀ := X.base) I.ok.mod.kin FK.kp (thn (ha pos pins s σ H (fun vs H1 => vs = [.ref a] ∧ H1 = H) I ⟨_, h1, rfl, rfl⟩) fun us s1 ⟨vs1, H1, I1, r, ev, eH⟩ => ⟨I1.kIn, ?_⟩)
  subst ev eH
  obtain rfl : us = [.ref a] := by
    cases r with
    | cons r1 r2 => cases r2; exact congrArg (· :: []) r1
  obtain ⟨p1, p2, p3, p4, _⟩ := I1.pin (a, oe) (by simp)
  have nf : a ∉ frs X.stack := fun z => (List.mem_cons.mp (I1.stkSub a z)).elim p3 p4
  refine wpAny_call (codeAny_mono (kind_run (Q := Q) FK T M B bK hr.depth I1.env0 rfl p1 g2 g3 g4 g5 p2 nf h2) fun r s' hq => ?_)
  cases r with
  | error e => exact hq.elim
  | ok fl =>
    cases fl with
    | ret u => exact I1.after hq
    | next => exact False.elim hq
    | brk => exact False.elim hq
    | cont => exact False.elim hq
theorem why_ok {f fK : Addr} {fd fdK : FuncData} {xa : XA} {j : Nat} (F : Fun K "_law_why" "_law_why" sWhy f fd) (bi : Binds K fd ["_law_ask"] []) (FK : Fun K "_law_kind" "_law_kind" sKind fK fdK) (bK : Binds K fdK ["_law_e"] []) (mK : mg "_law_kind" = some (.ref fK)) (T : Txt mg) (M : XM mg xa) :
    WhyOk P w K mg base j (j + 1) f (KW K xa) := by
  intro A outer s H g Q hr e0 hA
  have KX : K.In s.heap := e0.mod.kin.keeps fun b o e => (e0.bs b o e).1
  refine F.at0 scWh hr e0 (bi s [.ref g] KX rfl) (.cons rfl .nil : Vals [.ref g] [.ref g]) rfl fun cdv hr1 => ?_
  have O : Own (cxOf CX0 P w K mg base ["_law_ask", "_law_told", "_law_word", "_law_e"] "_law_why" (defScope sWhy) f cdv A outer s H E0).nox := ⟨rfl, rfl, rfl, rfl⟩
  refine ⟨_, pss0_cons (ps_set (i := 1) scWh.nd rfl (Or.inl rfl) pe_non).p0 (pss0_cons (ps_set (i := 2) scWh.nd rfl (Or.inl rfl) pe_str).p0
    (pss0_cons (ps_try (Es := fun σ C d H' => σ = [some (.ref g), some .non, some (.str ""), none] ∧ whyE (KW K xa) Q C d H') (i := 3) O (pss_one (ps_set (i := 1) scWh.nd rfl (Or.inl rfl) (pe_ask (i := 0) O hA hr1 rfl (Or.inl rfl)))).p0 scWh.nd rfl rfl rfl M.mS rfl M.mL rfl M.mE
      (fun σ C d H' z => by obtain ⟨_, _, word, ⟨D, b, rfl, B, _⟩, _⟩ := z; exact B.any))
    (pss_one (ps_ret (pe_tup (pa_cons (pv 1) (pa_cons (pv 2) pa_nil))))).p0)), ?_⟩
  refine ⟨⟨rfl, rfl, fun v H' q => ?_, fun C d H' q => ⟨rfl, q⟩⟩, fun a oe C d vs σ' H' y2 yd y3 y4 y6 q => ?_⟩
  · exact ⟨_, rfl, _, rfl, by show 2 ≤ sizeLine; decide, q⟩
  · obtain ⟨rfl, rfl, word, ⟨D, b, rfl, B, rfl⟩, q⟩ := q
    refine ⟨_, pss_one (ps_set (i := 2) scWh.nd rfl (Or.inl rfl) (pe_kind (i := 3) FK bK T M B hr1 y2 yd y3 y4 rfl mK (pa_cons (pv 3) pa_nil))), ?_⟩
    refine ⟨rfl, fun H2 s2 => ?_⟩
    exact ⟨_, rfl, _, rfl, by show 2 ≤ sizeLine; decide, fun tp e => q H2 tp s2 e⟩
end
end Hs

/-! part K14mxv -/
set_option Elab.async false
set_option linter.all false
set_option maxRecDepth 100000
namespace Hs
open PySem L2 Hm
def spMixV : Sp := fun vs H Q _ => ∃ (b la a : Addr) (l : List V), vs = [.ref b, .ref a] ∧ Box H b la ∧ H a = some (.lst l) ∧ l.length ≤ 60 ∧ ∀ p H' m, H p = none → But b H H' → Box H' b la → H' p = some (.lst m) → m.Perm l → Q (.ref p) H'
section
variable {P : Program} {w : World} {K : PySem.W.Frag} {mg : Str → Option Value} {base : Heap}
theorem scM : FnScope ["_law_box", "_law_row", "_law_left", "_law_found", "_law_step"] ["_law_box", "_law_row"] (defScope sMix) := ⟨rfl, rfl, rfl, by decide +kernel, rfl, by decide +kernel, by decide +kernel⟩
theorem ok_mixV {f fD : Addr} {fd fdD : FuncData} (F : Fun K "_law_mixed" "_law_mixed" sMix f fd) (FD : Fun K "_law_draw" "_law_draw" sDraw fD fdD) (bD : Binds K fdD ["_law_box", "_law_many"] []) (mD : mg "_law_draw" = some (.ref fD)) (T : Txt mg) :
    FnOk P w K mg base CX0 2 f fd ["_law_box", "_law_row"] spMixV := by
  have GD : FnOk P w K mg base CX0 1 fD fdD ["_law_box", "_law_many"] spDraw := ok_draw FD T
  refine F.ok scM (fun vs H Q E h => ?_) (fun cdv A outer s H vs Q E hr h => ?_)
  · obtain ⟨b, la, a, l, rfl, _⟩ := h
    rfl
  · obtain ⟨b, la, a, l, rfl, B, ha, hlen, k⟩ := h
    refine ⟨_, pss_cons (ps_set (i := 2) scM.nd rfl (Or.inl rfl) (pe_callTy call_list_of (by rfl) T.list b_list (pa_cons (pv 1) pa_nil)))
      (pss_cons (ps_set (i := 3) scM.nd rfl (Or.inl rfl) (pe_lst pa_nil))
      (pss_cons (ps_for PassesOwn.never rfl (pi_range1 rfl T.range (pa_cons (pe_callB call_len_seq (by rfl) T.len PySem.boot_len (pa_cons (pv 1) pa_nil)) pa_nil)) (pg_name (i := 4) scM.nd rfl (Or.inl rfl))
        (pss_one (ps_expr (pe_bm PySem.F.plainAttrs_list PySem.F.slot_list_append PySem.F.type_list_append mt_append (pv 3)
          (pa_cons (pe_bm PySem.F.plainAttrs_list PySem.F.slot_list_pop PySem.F.type_list_pop mt_popAt (pv 2)
            (pa_cons (pe_call GD hr rfl mD FD.kp bD .nil pass0 (pa_cons (pv 0) (pa_cons (pe_callB call_len_seq (by rfl) T.len PySem.boot_len (pa_cons (pv 2) pa_nil)) pa_nil))) pa_nil)) pa_nil)))))
      (pss_one (ps_ret (pv 3))))), ?_⟩
    have bn : ∀ {p : Addr}, H p = none → p ≠ b ∧ p ≠ la := fun h => B.new h
    refine ⟨_, rfl, a, _, rfl, .inl (SqL.of ha), fun q hq => ⟨by show 0 ≤ sizeLine; decide, fun p hp => ?_⟩⟩
    have hpH : H p = none := (Same.new hq).free hp
    have nqp : q ≠ p := ne_of_none upd_same hp
    have ha2 : (upd (upd H q (.lst l)) p (.lst [])) a = some (.lst l) := (Same.new hp) _ _ ((Same.new hq) _ _ ha)
    refine ⟨_, rfl, a, _, rfl, .inl (SqL.of ha2), _, rfl, by omega, by omega, for_range (lo := 0) (n := (l.length : Int).toNat) (fun i σ H1 => ∃ (l1 m : List V) (o : Option V), σ = [some (.ref b), some (.ref a), some (.ref q), some (.ref p), o] ∧
      But b H H1 ∧ Box H1 b la ∧ H1 q = some (.lst l1) ∧ H1 p = some (.lst m) ∧ (m ++ l1).Perm l ∧ l1.length + i = l.length) ?_ ?_ ?_⟩
    · refine ⟨l, [], none, rfl, (But.new hq).set hpH, (B.upd (bn hq).1 (bn hq).2).upd (bn hpH).1 (bn hpH).2, by rw [upd_ne nqp]; exact upd_same, upd_same, .refl _, rfl⟩
    · rintro i σ H1 hi ⟨l1, m, o, rfl, kp, B1, hq1, hp1, pm, ln⟩
      have hm : m.length ≤ 60 := by have := pm.length_eq; rw [List.length_append] at this; omega
      refine ⟨_, rfl, .inl ⟨rfl, _, SqL.of hp1⟩, _, rfl, .inl ⟨rfl, _, SqL.of hq1⟩, _, rfl, _, rfl, q, _, rfl, .inl (SqL.of hq1), b, la, _, rfl, B1, by omega, by omega, fun r H2 r0 r1 kp2 B2 => ?_⟩
      obtain ⟨j, rfl⟩ := Int.eq_ofNat_of_zero_le r0
      have hj : j < l1.length := by omega
      have hq2 := kp2 _ _ (bn hq).1 hq1
      have hp2 := kp2 _ _ (bn hpH).1 hp1
      refine ⟨q, _, _, j, _, rfl, rfl, hq2, by omega, by omega, ?_, List.getElem?_eq_getElem hj, p, _, _, rfl, rfl, by rw [upd_ne nqp.symm]; exact hp2, ?_, ?_⟩
      · exact seqIndex_of' (by omega) (by omega)
      · exact small1000 (by omega)
      · refine ⟨l1.eraseIdx j, m ++ [l1[j]], _, rfl, ((kp.trans kp2).set hq).set hpH, (B2.upd (bn hq).1 (bn hq).2).upd (bn hpH).1 (bn hpH).2, ?_, ?_, ?_, ?_⟩
        · rw [upd_ne nqp, upd_same]
        · rw [upd_same]
        · rw [List.append_assoc]
          exact (List.Perm.append_left m (erase_perm hj)).trans pm
        · rw [List.length_eraseIdx, if_pos hj]; omega
    · rintro σ H1 ⟨l1, m, o, rfl, kp, B1, hq1, hp1, pm, ln⟩
      have e : l1 = [] := List.eq_nil_of_length_eq_zero (by omega)
      rw [e, List.append_nil] at pm
      exact ⟨_, rfl, k p H1 m hpH kp B1 hp1 pm⟩
theorem ok_mix {f fD : Addr} {fd fdD : FuncData} (F : Fun K "_law_mixed" "_law_mixed" sMix f fd) (FD : Fun K "_law_draw" "_law_draw" sDraw fD fdD) (bD : Binds K fdD ["_law_box", "_law_many"] []) (mD : mg "_law_draw" = some (.ref fD)) (T : Txt mg) :
    FnOk P w K mg base CX0 2 f fd ["_law_box", "_law_row"] (spMix K) := (ok_mixV F FD bD mD T).imp fun vs H Q E ⟨b, la, a, l, e, B, ha, hl, k⟩ => ⟨b, la, a, tvs l, e, B, ha, by rw [len_tvs]; exact hl, fun p H' m hp kp B' hm pm => by
      obtain ⟨m', rfl, pm'⟩ := perm_map' (f := tv) pm
      exact k p H' m' hp kp B' hm pm'⟩
end
end Hs

/-! part K14hd -/
set_option Elab.async false
set_option linter.all false
set_option maxRecDepth 100000
namespace Hs
open PySem L2 Hm
abbrev sOnly : Stmt := top 23
abbrev sIsH : Stmt := top 24
abbrev sNeed : Stmt := top 25
def sg (a : Str) : Bool := decide (∀ c ∈ a.cps.toList, c = 48 ∨ c = 49)
def isH (a : Str) : Bool := decide (a.length ≤ 60) && sg a
theorem sg_tx (x : W) : sg (tx x) = true := decide_eq_true ((strip_iff _).mp (strip_tx x))
theorem isH_tx {x : W} (h : x.length ≤ 60) : isH (tx x) = true := by
  unfold isH
  rw [tx_len, decide_eq_true h, sg_tx]
  rfl
/-- a def of the text and its call -/
structure Def (K : PySem.W.Frag) (mg : Str → Option Value) (x : Str) (st : Stmt) (ps : List Str) (f : Addr) (fd : FuncData) : Prop where
  fn : Fun K x x st f fd
  bi : Binds K fd ps []
  at_ : mg x = some (.ref f)
def spOnly : Sp := fun vs H Q _ => ∃ a, vs = [.str a] ∧ a.length ≤ sizeLine ∧ Q (.bl (sg a)) H
def spIsH : Sp := fun vs H Q _ => ∃ a, vs = [.str a] ∧ a.length ≤ sizeLine ∧ Q (.bl (isH a)) H
/-- an own class of refusals without an own __init__, below ValueError -/
structure Ref (K : PySem.W.Frag) (mg : Str → Option Value) (x : Str) (C : Addr) : Prop where
  at_ : mg x = some (.ref C)
  ex : PySem.W.excIn K C [.type "ValueError", .type "Exception", .type "BaseException", .type "object"] "ValueError.__new__" = true
def spNeedX (cB : Addr) : Sp := fun vs H Q E => ∃ a, vs = [.str a] ∧ a.length ≤ sizeLine ∧ (isH a = true → Q .non H) ∧ (isH a = false → E (.ref cB) none H)
section
variable {P : Program} {w : World} {K : PySem.W.Frag} {mg : Str → Option Value} {base : Heap}
theorem scOnly : FnScope ["text"] ["text"] (defScope sOnly) := ⟨rfl, rfl, rfl, by decide +kernel, rfl, by decide +kernel, by decide +kernel⟩
theorem ok_only {f : Addr} {fd : FuncData} (F : Fun K "only_signs" "only_signs" sOnly f fd) (T : Txt mg) : FnOk P w K mg base CX0 1 f fd ["text"] spOnly := by
  refine F.ok scOnly (fun vs H Q E h => ?_) (fun cdv A outer s H vs Q E hr h => ?_)
  · obtain ⟨a, rfl, _⟩ := h
    rfl
  · obtain ⟨a, rfl, hz, k⟩ := h
    refine ⟨_, pss_one (ps_ret (pe_cmpR op_eq (pe_m1 PySem.F.slot_str_strip PySem.F.type_str_strip mt_stripC (pv 0) pe_str) pe_str (nomark _))), ?_⟩
    refine ⟨_, rfl, ⟨_, rfl⟩, _, _, rfl, rfl, hz, rfl, ?_⟩
    have e : decide (V.str (Txt.stripChars a ("01" : Str)) = V.str ("" : Str)) = sg a := by
      unfold sg
      rw [Bool.eq_iff_iff, decide_eq_true_eq, decide_eq_true_eq, ← strip_iff]
      exact ⟨fun z => V.str.inj z, fun z => congrArg V.str z⟩
    rw [e]
    exact k
theorem scIsH : FnScope ["text"] ["text"] (defScope sIsH) := ⟨rfl, rfl, rfl, by decide +kernel, rfl, by decide +kernel, by decide +kernel⟩
theorem ok_isH {f fO : Addr} {fd fdO : FuncData} (F : Fun K "is_head" "is_head" sIsH f fd) (dO : Def K mg "only_signs" sOnly ["text"] fO fdO) (T : Txt mg) (L : ∃ t, mg "LONGEST" = some (.int 60 t)) : FnOk P w K mg base CX0 2 f fd ["text"] spIsH := by
  have GO : FnOk P w K mg base CX0 1 fO fdO ["text"] spOnly := ok_only dO.fn T
  obtain ⟨tk, L⟩ := L
  refine F.ok scIsH (fun vs H Q E h => ?_) (fun cdv A outer s H vs Q E hr h => ?_)
  · obtain ⟨a, rfl, _⟩ := h
    rfl
  · obtain ⟨a, rfl, hz, k⟩ := h
    refine ⟨_, pss_one (ps_ret (pe_and (pe_cmpR op_le (pe_callB call_len_str (by rfl) T.len PySem.boot_len (pa_cons (pv 0) pa_nil)) (pe_glob (v := .int 60) (by rfl) L ⟨_, rfl⟩) (nomark _))
      (pe_one (pe_call GO hr rfl dO.at_ dO.fn.kp dO.bi .nil pass0 (pa_cons (pv 0) pa_nil))))), ?_⟩
    refine ⟨_, rfl, _, rfl, hz, _, _, rfl, rfl, _, rfl, ?_⟩
    have e : decide ((a.length : Int) ≤ 60) = decide (a.length ≤ 60) := by rw [Bool.eq_iff_iff, decide_eq_true_eq, decide_eq_true_eq]; omega
    rw [e]
    unfold isH at k
    cases h : decide (a.length ≤ 60) with
    | true =>
      rw [h, Bool.true_and] at k
      exact iteT ⟨_, rfl, a, rfl, hz, k⟩
    | false =>
      rw [h, Bool.false_and] at k
      exact iteF k
theorem scNeed : FnScope ["text"] ["text"] (defScope sNeed) := ⟨rfl, rfl, rfl, by decide +kernel, rfl, by decide +kernel, by decide +kernel⟩
theorem ok_needX {f fO fH cB : Addr} {fd fdO fdH : FuncData} (F : Fun K "need_head" "need_head" sNeed f fd) (dO : Def K mg "only_signs" sOnly ["text"] fO fdO) (dH : Def K mg "is_head" sIsH ["text"] fH fdH) (T : Txt mg) (L : ∃ t, mg "LONGEST" = some (.int 60 t)) (R : Ref K mg "BadHead" cB) :
    FnOk P w K mg base (CXE P w) 3 f fd ["text"] (spNeedX cB) := by
  have GH : FnOk P w K mg base CX0 2 fH fdH ["text"] spIsH := ok_isH dH.fn dO T L
  obtain ⟨tk, L⟩ := L
  refine F.okX scNeed (fun vs H Q E h => ?_) (fun cdv A outer s H vs Q E hr h => ?_)
  · obtain ⟨a, rfl, _⟩ := h
    rfl
  · obtain ⟨a, rfl, hz, k1, k2⟩ := h
    refine ⟨_, pss_one (ps_if (pt_not (pt_val (pe_call GH hr rfl dH.at_ dH.fn.kp dH.bi .nil pass0 (pa_cons (pv 0) pa_nil))))
      (pss_one (ps_raise own_of rfl rfl R.at_ R.ex PySem.F.excBase_ValueError (pa_cons (pe_fs (pj_cons pe_str (pj_cons (pe_fmtI (pe_glob (v := .int 60) (by rfl) L ⟨_, rfl⟩)) (pj_cons pe_str pj_nil)))) pa_nil))) pss_nil), ?_⟩
    refine ⟨_, rfl, a, rfl, hz, isH a, rfl, ?_⟩
    cases h : isH a with
    | true => exact iteF (k1 h)
    | false =>
      refine iteT ?_
      refine ⟨_, rfl, by decide +kernel, 60, rfl, by decide +kernel, _, rfl, by decide +kernel, _, rfl, by decide +kernel, by decide +kernel, by decide, k2 h⟩
end
end Hs

/-! part K14lef -/
set_option Elab.async false
set_option linter.all false
set_option maxRecDepth 100000
set_option maxHeartbeats 1000000
namespace Hs
open PySem L2 Hm
abbrev sLef : Stmt := top 29
abbrev sFol : Stmt := top 30
theorem tw_ones : ∀ k, (List.replicate k true).takeWhile id = List.replicate k true
  | 0 => rfl
  | k + 1 => by rw [List.replicate_succ, List.takeWhile_cons, tw_ones k]; rfl
theorem tw_form : ∀ (k : Nat) (u : W), ((List.replicate k true) ++ false :: u).takeWhile id = List.replicate k true
  | 0, u => rfl
  | k + 1, u => by rw [List.replicate_succ, List.cons_append, List.takeWhile_cons, tw_form k]; rfl
theorem stem_ones (k : Nat) : stem (List.replicate k true) = [] := by
  unfold stem
  rw [List.reverse_replicate, tw_ones, Nat.sub_self]
  rfl
theorem stem_form (st : W) (k : Nat) : stem (st ++ false :: List.replicate k true) = st ++ [false] := by
  unfold stem
  have e : (st ++ false :: List.replicate k true).reverse = List.replicate k true ++ false :: st.reverse := by simp
  rw [e, tw_form]
  have e2 : (st ++ false :: List.replicate k true).length - (List.replicate k true).length = (st ++ [false]).length := by simp; omega
  rw [e2, show st ++ false :: List.replicate k true = (st ++ [false]) ++ List.replicate k true by simp, List.take_left']
  rfl
theorem stem_len (h : W) : (stem h).length ≤ h.length := by unfold stem; rw [List.length_take]; omega
/-- what is sought behind a head -/
def foll (h : W) : Option W := if stem h = [] then none else some ((stem h).dropLast ++ [true])
def fv : Option W → V
  | none => .non
  | some s => tv s
theorem foll_ones (k : Nat) : foll (List.replicate k true) = none := by unfold foll; rw [stem_ones, if_pos rfl]
theorem foll_form (st : W) (k : Nat) : foll (st ++ false :: List.replicate k true) = some (st ++ [true]) := by
  unfold foll
  rw [stem_form, if_neg (by simp), List.dropLast_concat]
def spFol : Sp := fun vs H Q _ => ∃ h : W, vs = [tv h] ∧ h.length ≤ 100 ∧ Q (fv (foll h)) H
def spLef : Sp := fun vs H Q _ => ∃ (a : Addr) (l : List W), vs = [.ref a] ∧ H a = some (.lst (tvs l)) ∧ l.Pairwise lt ∧ Anti l ∧ (∀ x ∈ l, x.length ≤ 100) ∧
  (∀ m : W, m.length ≤ 101 → (∀ x ∈ l, Ap m x) → Q (tv m) H) ∧ ((∀ r, den l r) → Q .non H)
section
variable {P : Program} {w : World} {K : PySem.W.Frag} {mg : Str → Option Value} {base : Heap}
theorem scFol : FnScope ["head", "stem"] ["head"] (defScope sFol) := ⟨rfl, rfl, rfl, by decide +kernel, rfl, by decide +kernel, by decide +kernel⟩
theorem ok_fol {f : Addr} {fd : FuncData} (F : Fun K "following" "following" sFol f fd) (T : Txt mg) : FnOk P w K mg base CX0 1 f fd ["head"] spFol := by
  refine F.ok scFol (fun vs H Q E h => ?_) (fun cdv A outer s H vs Q E hr h => ?_)
  · obtain ⟨h, rfl, _⟩ := h
    rfl
  · obtain ⟨h, rfl, hl, k⟩ := h
    refine ⟨_, pss_cons (ps_set (i := 1) scFol.nd rfl (Or.inl rfl) (pe_m1 PySem.F.slot_str_rstrip PySem.F.type_str_rstrip mt_rstripC (pv 0) pe_str))
      (pss_cons (ps_if (pt_cmpR op_eq (pv 1) pe_str (nomark _)) (pss_one (ps_ret pe_non)) pss_nil)
      (pss_one (ps_ret (pe_op op_add_str (pe_slice sl_str (pv 1) po_none (po_some (pe_un un_neg pe_int))) pe_str)))), ?_⟩
    have sl := stem_len h
    refine ⟨_, rfl, ⟨_, rfl⟩, _, _, rfl, rfl, by rw [tx_len]; exact Nat.le_trans hl (by decide), ?_⟩
    rw [rstrip_tx]
    refine ⟨_, rfl, rfl, _, rfl, ?_⟩
    by_cases e : stem h = []
    · have q : decide (V.str (tx (stem h)) = V.str ("" : Str)) = true := by rw [e, tx_nil]; exact decide_eq_true rfl
      rw [q]
      refine iteT ?_
      unfold foll at k
      rw [if_pos e] at k
      exact k
    · have q : decide (V.str (tx (stem h)) = V.str ("" : Str)) = false := decide_eq_false fun z => e (tx_inj ((V.str.inj z).trans tx_nil.symm))
      rw [q]
      refine iteF ⟨_, rfl, _, rfl, _, rfl, _, rfl, ?_, ?_⟩
      · rw [tx_len]; exact Nat.le_trans (Nat.le_trans sl hl) (by decide)
      rw [show -(1 : Int) = -1 from rfl, cut_last]
      refine ⟨_, _, rfl, rfl, ?_, ?_⟩
      · rw [tx_len, List.length_dropLast]
        exact Nat.le_trans (show (stem h).length - 1 + 1 ≤ 200 by omega) (by decide)
      · rw [tx_a1]
        unfold foll at k
        rw [if_neg e] at k
        exact k
theorem scLef : FnScope ["heads", "sought", "head", "turn"] ["heads"] (defScope sLef) := ⟨rfl, rfl, rfl, by decide +kernel, rfl, by decide +kernel, by decide +kernel⟩
theorem ok_lef {f fF : Addr} {fd fdF : FuncData} (F : Fun K "left_out" "left_out" sLef f fd) (dF : Def K mg "following" sFol ["head"] fF fdF) (T : Txt mg) : FnOk P w K mg base CX0 2 f fd ["heads"] spLef := by
  have GF : FnOk P w K mg base CX0 1 fF fdF ["head"] spFol := ok_fol dF.fn T
  refine F.ok scLef (fun vs H Q E h => ?_) (fun cdv A outer s H vs Q E hr h => ?_)
  · obtain ⟨a, l, rfl, _⟩ := h
    rfl
  · obtain ⟨a, l, rfl, ha, st, an, sz, k1, k2⟩ := h
    refine ⟨_, pss_cons (ps_set (i := 1) scLef.nd rfl (Or.inl rfl) pe_str)
      (pss_cons (ps_for PassesOwn.never rfl (pi_list (pv 0)) (pg_name (i := 2) scLef.nd rfl (Or.inl rfl))
        (pss_cons (ps_if (pt_not (pt_val (pe_m1 PySem.F.slot_str_startswith PySem.F.type_str_startswith mt_startswith (pv 2) (pv 1)))) (pss_one (ps_ret (pv 1))) pss_nil)
        (pss_cons (ps_set (i := 3) scLef.nd rfl (Or.inl rfl) (pe_bm PySem.F.plainAttrs_str PySem.F.slot_str_find PySem.F.type_str_find mt_find3 (pv 2) (pa_cons pe_str (pa_cons (pe_callB call_len_str (by rfl) T.len PySem.boot_len (pa_cons (pv 1) pa_nil)) pa_nil))))
        (pss_cons (ps_if (pt_cmpR op_ge (pv 3) pe_int (nomark _)) (pss_one (ps_ret (pe_op op_add_str (pe_slice sl_str (pv 2) po_none (po_some (pv 3))) pe_str))) pss_nil)
        (pss_one (ps_set (i := 1) scLef.nd rfl (Or.inl rfl) (pe_call GF hr rfl dF.at_ dF.fn.kp dF.bi .nil pass0 (pa_cons (pv 2) pa_nil))))))))
      (pss_one (ps_ret (pv 1)))), ?_⟩
    refine ⟨_, rfl, a, rfl, ⟨_, SqL.of ha⟩, for_list (K := K) (a := a) (xs := tvs l) (fun i σ H1 => ∃ (o : Option W) (o2 o3 : Option V), σ = [some (.ref a), some (fv o), o2, o3] ∧ H1 = H ∧
      ((∃ s, o = some s ∧ s.length ≤ 100 ∧ Lo (l.take i) (l.drop i) s) ∨ (o = none ∧ l.length ≤ i ∧ ∀ r, den l r))) ?_ ?_ ?_ ?_⟩
    · refine ⟨some [], none, none, ?_, rfl, .inl ⟨[], rfl, by decide, by rw [List.take_zero, List.drop_zero]; exact lo_start st an⟩⟩
      show [some (V.ref a), some (V.str _), none, none] = [some (V.ref a), some (V.str (tx [])), none, none]
      rw [tx_nil]
    · rintro i σ H1 _ ⟨o, o2, o3, _, rfl, _⟩
      exact SqL.of ha
    · rintro i x σ H1 hx ⟨o, o2, o3, rfl, rfl, q⟩
      obtain ⟨h, hh, rfl⟩ := tvs_at hx
      obtain ⟨hi, hie⟩ := List.getElem?_eq_some_iff.mp hh
      rcases q with ⟨s, rfl, hs, g⟩ | ⟨_, q, _⟩
      · have hl : h.length ≤ 100 := sz h (List.mem_of_getElem? hh)
        have ed : l.drop i = h :: l.drop (i + 1) := by rw [← List.getElem_cons_drop hi, hie]
        have et : l.take (i + 1) = l.take i ++ [h] := by rw [List.take_add_one, hh]; rfl
        have el : l.take i ++ h :: l.drop (i + 1) = l := by rw [← ed, List.take_append_drop]
        rw [ed] at g
        refine ⟨_, rfl, ⟨_, rfl⟩, _, rfl, _, _, rfl, rfl, _, rfl, ?_⟩
        rw [starts_tx_dec]
        by_cases p : s <+: h
        · rw [decide_eq_true p]
          refine iteF ⟨_, rfl, rfl, _, rfl, _, rfl, by rw [tx_len]; exact Nat.le_trans hs (by decide), _, _, _, rfl, rfl, ?_⟩
          rw [tx_len]
          rcases find_one p.length_le with ⟨d, d1, d2, d3, d4, e⟩ | ⟨z, e⟩
          · rw [e]
            refine ⟨_, rfl, _, _, rfl, rfl, _, rfl, ?_⟩
            rw [decide_eq_true (show (0 : Int) ≤ (d : Int) by omega)]
            refine iteT ⟨_, rfl, _, rfl, _, rfl, _, rfl, by rw [tx_len]; exact Nat.le_trans hl (by decide), ?_⟩
            rw [cut_take]
            refine ⟨_, _, rfl, rfl, ?_, ?_⟩
            · rw [tx_len, List.length_take]; exact Nat.le_trans (show min d h.length + 1 ≤ 200 by omega) (by decide)
            · rw [tx_a0]
              refine k1 _ ?_ ?_
              · rw [List.length_append, List.length_take]; show min d h.length + 1 ≤ 101; omega
              · have := lo_turn g p d1 d3
                rw [el] at this
                exact this
          · rw [e]
            refine ⟨_, rfl, _, _, rfl, rfl, _, rfl, ?_⟩
            rw [decide_eq_false (show ¬ (0 : Int) ≤ -1 by decide)]
            refine iteF ⟨_, rfl, h, rfl, hl, ?_⟩
            rcases forms h with ⟨n, rfl⟩ | ⟨st', n, rfl⟩
            · rw [foll_ones]
              obtain ⟨e1, e2⟩ := lo_last g p z
              rw [← et] at e2
              refine ⟨none, _, _, rfl, rfl, .inr ⟨rfl, ?_, ?_⟩⟩
              · have := congrArg List.length e1
                rw [List.length_drop, List.length_nil] at this
                omega
              · have e3 := List.take_append_drop (i + 1) l
                rw [e1, List.append_nil] at e3
                rw [e3] at e2
                exact e2
            · rw [foll_form]
              refine ⟨some (st' ++ [true]), _, _, rfl, rfl, .inl ⟨_, rfl, ?_, ?_⟩⟩
              · rw [List.length_append, List.length_cons] at hl
                rw [List.length_append]
                show st'.length + 1 ≤ 100
                omega
              · rw [et]
                exact lo_next g p z
        · rw [decide_eq_false p]
          refine iteT ⟨_, rfl, k1 s (by omega) ?_⟩
          have := lo_miss g p
          rw [el] at this
          exact this
      · omega
    · rintro σ H1 ⟨o, o2, o3, rfl, rfl, q⟩
      rcases q with ⟨s, rfl, hs, g⟩ | ⟨rfl, _, q⟩
      · refine ⟨_, rfl, k1 s (by omega) fun x hx => ?_⟩
        rw [len_tvs, List.take_length] at g
        exact (g.ap x hx).symm
      · exact ⟨_, rfl, k2 q⟩
end
end Hs

/-! part K14flt -/
set_option Elab.async false
set_option linter.all false
set_option maxRecDepth 100000
set_option maxHeartbeats 1000000
namespace Hs
open PySem L2 Hm
abbrev sFau : Stmt := top 28
theorem b_max : bootBuiltins "max" = some (.builtin "max") := by decide +kernel
theorem tx_of {a : Str} (h : sg a = true) : ∃ x : W, a = tx x := by
  refine ⟨a.cps.toList.map fun c => c == 49, str_ext ?_⟩
  have h := of_decide_eq_true h
  rw [tl_tx, List.map_map]
  conv => lhs; rw [← List.map_id a.cps.toList]
  refine List.map_congr_left fun c hc => ?_
  rcases h c hc with rfl | rfl <;> rfl
theorem heads_of : ∀ {ls : List Str}, (∀ x ∈ ls, isH x = true) → ∃ l : List W, ls = l.map tx ∧ ∀ x ∈ l, x.length ≤ 60
  | [], _ => ⟨[], rfl, fun x h => by cases h⟩
  | a :: ls, h => by
    obtain ⟨l, rfl, hl⟩ := heads_of fun x hx => h x (.tail _ hx)
    have ha := h a (.head _)
    unfold isH at ha
    rw [Bool.and_eq_true] at ha
    obtain ⟨x, rfl⟩ := tx_of ha.2
    have hx := of_decide_eq_true ha.1
    rw [tx_len] at hx
    exact ⟨x :: l, rfl, fun y hy => (List.mem_cons.mp hy).elim (fun e => e ▸ hx) (hl y)⟩
/-- what fault tells of heads -/
def FO (l : List W) (v : V) (H' : Hp) : Prop := (v = .non ∧ Cut l) ∨
  (∃ (p : Addr) (i j : Nat) (x y : W), v = .ref p ∧ H' p = some (.tup [.str "both", .int (i : Int), .int (j : Int)]) ∧ i < j ∧ l[i]? = some x ∧ l[j]? = some y ∧ ¬ Ap x y) ∨
  ∃ (p : Addr) (m : W), v = .ref p ∧ H' p = some (.tup [.str "none", tv m]) ∧ (∀ x ∈ l, Ap m x) ∧ m.length ≤ 101
def spFau (cB : Addr) : Sp := fun vs H Q E => ∃ (a : Addr) (ls : List Str), vs = [.ref a] ∧ H a = some (.lst (ls.map V.str)) ∧ ls.length ≤ 60 ∧ (∀ x ∈ ls, x.length ≤ 1000) ∧
  (∀ l : List W, ls = l.map tx → (∀ x ∈ l, x.length ≤ 60) → ∀ v H', Same H H' → FO l v H' → Q v H') ∧ ((∃ x ∈ ls, isH x = false) → E (.ref cB) none H)
def keyOf (H : Hp) (p : Addr) : List IK := match H p with
  | some (.tup [.str x, v]) => [.inr x.cps.toList, (vkey v).getD (.inl 0)]
  | _ => []
open Classical in
noncomputable def vOf (H : Hp) (p : Addr) : W × Nat := if h : ∃ z : W × Nat, H p = some (.tup [tv z.1, .int (z.2 : Int)]) then Classical.choose h else ([], 0)
theorem vOf_at {H : Hp} {p : Addr} {x : W} {k : Nat} (h : H p = some (.tup [tv x, .int (k : Int)])) : vOf H p = (x, k) := by
  have ex : ∃ z : W × Nat, H p = some (.tup [tv z.1, .int (z.2 : Int)]) := ⟨(x, k), h⟩
  unfold vOf
  rw [dif_pos ex]
  have e := Classical.choose_spec ex
  generalize Classical.choose ex = z at e
  rw [h] at e
  have e1 := HO.tup.inj (Option.some.inj e)
  injection e1 with e1 e2
  injection e2 with e2
  refine Prod.ext (tv_eq.mp e1).symm ?_
  have := V.int.inj e2
  show z.2 = k
  omega
theorem keyOf_at {H : Hp} {p : Addr} {x : W} {k : Nat} (h : H p = some (.tup [tv x, .int (k : Int)])) : keyOf H p = [.inr ((tx x).cps.toList), .inl (k : Int)] := by
  unfold keyOf
  rw [h]
  rfl
theorem key_le {x y : W} {i j : IK} (h : KeyLe [.inr ((tx x).cps.toList), i] [.inr ((tx y).cps.toList), j]) : ¬ lt y x := by
  have h1 := (PyProof.Rows.lex_false (O := PyProof.Rows.itemOrd)).mp h
  have h2 : decide ((tx y).cps.toList < (tx x).cps.toList) = false := h1.1
  rw [← PyProof.Rows.ltCps_eq] at h2
  exact (not_ltCps y x).mp h2
theorem cut_tlG {α : Type} (f : α → V) (l : List α) : cutV (l.map f) (some 1) none = (l.drop 1).map f := by
  rw [cutV_map]
  have e : HT.sIx l.length 0 (some 1) = min 1 l.length := HT.sIx_nat l.length 0 1
  rw [e, HT.sIx_none]
  congr 1
  cases l with
  | nil => rfl
  | cons a l =>
    have : min 1 (a :: l).length = 1 := by simp
    rw [this]
    exact List.take_of_length_le (by simp)
abbrev NF : List Str := ["heads", "head", "placed", "upper", "place", "lower", "after", "missing"]
section
variable {P : Program} {w : World} {K : PySem.W.Frag} {mg : Str → Option Value} {base : Heap}
theorem scFau : FnScope NF ["heads"] (defScope sFau) := ⟨rfl, rfl, rfl, by decide +kernel, rfl, by decide +kernel, by decide +kernel⟩
theorem ok_fau {f fO fH fN fL fF cB : Addr} {fd fdO fdH fdN fdL fdF : FuncData} (F : Fun K "fault" "fault" sFau f fd) (dO : Def K mg "only_signs" sOnly ["text"] fO fdO) (dH : Def K mg "is_head" sIsH ["text"] fH fdH) (dN : Def K mg "need_head" sNeed ["text"] fN fdN)
    (dL : Def K mg "left_out" sLef ["heads"] fL fdL) (dF : Def K mg "following" sFol ["head"] fF fdF) (T : Txt mg) (L : ∃ t, mg "LONGEST" = some (.int 60 t)) (R : Ref K mg "BadHead" cB) :
    FnOk P w K mg base (CXE P w) 4 f fd ["heads"] (spFau cB) := by
  have GN : FnOk P w K mg base (CXE P w) 3 fN fdN ["text"] (spNeedX cB) := ok_needX dN.fn dO dH T L R
  have GL : FnOk P w K mg base CX0 2 fL fdL ["heads"] spLef := ok_lef dL.fn dF T
  refine F.okX scFau (fun vs H Q E h => ?_) (fun cdv A outer s H vs Q E hr h => ?_)
  · obtain ⟨a, l, rfl, _⟩ := h
    rfl
  · obtain ⟨a, ls, rfl, ha, hn, hz, kQ, kE⟩ := h
    have hr2 := hr.mono (j := 2) (by decide)
    refine ⟨_, pss_cons (ps_for (XI.own own_of) rfl (pi_list (pv 0)) (pg_name (i := 1) scFau.nd rfl (Or.inl rfl)) (pss_one (ps_expr (pe_call GN hr rfl dN.at_ dN.fn.kp dN.bi .nil (XI.pass own_of rfl rfl) (pa_cons (pv 1) pa_nil)))))
      (pss_cons (ps_set (i := 2) scFau.nd rfl (Or.inl rfl) (pe_callB cr_sortedT (by rfl) T.sorted b_sorted (pa_cons (pe_lc (own := [("place", 4), ("head", 1)]) (g := gTup K 2 (gCons (gName 4) (gCons (gName 1) gNil))) (by rfl) scFau.nd (pi_enum rfl T.enumerate (pa_cons (pv 0) pa_nil))
          (blkOk_by (own := [("place", 4), ("head", 1)]) (N := NF) (sc := defScope sFau) (by decide +kernel)) (fun _ _ _ _ _ => pg_tup rfl (pgs_cons (pg_name (i := 4) scFau.nd rfl (Or.inl rfl)) (pgs_cons (pg_name (i := 1) scFau.nd rfl (Or.inl rfl)) pgs_nil))) (fun _ _ _ _ _ => pts_nil)
          (fun _ _ _ _ _ => pe_tup (pa_cons (pv 1) (pa_cons (pv 4) pa_nil)))) pa_nil)))
      (pss_cons (ps_for (XI.own own_of) rfl (pi_zip rfl T.zip (pa_cons (pv 2) (pa_cons (pe_slice sl_list (pv 2) (po_some pe_int) po_none) pa_nil)))
          (pg_tup rfl (pgs_cons (pg_tup rfl (pgs_cons (pg_name (i := 3) scFau.nd rfl (Or.inl rfl)) (pgs_cons (pg_name (i := 4) scFau.nd rfl (Or.inl rfl)) pgs_nil))) (pgs_cons (pg_tup rfl (pgs_cons (pg_name (i := 5) scFau.nd rfl (Or.inl rfl)) (pgs_cons (pg_name (i := 6) scFau.nd rfl (Or.inl rfl)) pgs_nil))) pgs_nil)))
          (pss_one (ps_if (pt_val (pe_m1 PySem.F.slot_str_startswith PySem.F.type_str_startswith mt_startswith (pv 5) (pv 3)))
            (pss_one (ps_ret (pe_tup (pa_cons pe_str (pa_cons (pe_callB (call_min2 rfl) (by rfl) T.min b_min (pa_cons (pv 4) (pa_cons (pv 6) pa_nil))) (pa_cons (pe_callB (call_max2 rfl) (by rfl) T.max b_max (pa_cons (pv 4) (pa_cons (pv 6) pa_nil))) pa_nil)))))) pss_nil)))
      (pss_cons (ps_set (i := 7) scFau.nd rfl (Or.inl rfl) (pe_call GL hr2 rfl dL.at_ dL.fn.kp dL.bi .nil pass0 (pa_cons (pe_lc (own := [("head", 1), ("place", 4)]) (g := gTup K 2 (gCons (gName 1) (gCons (gName 4) gNil))) (by rfl) scFau.nd (pi_list (pv 2))
          (blkOk_by (own := [("head", 1), ("place", 4)]) (N := NF) (sc := defScope sFau) (by decide +kernel)) (fun _ _ _ _ _ => pg_tup rfl (pgs_cons (pg_name (i := 1) scFau.nd rfl (Or.inl rfl)) (pgs_cons (pg_name (i := 4) scFau.nd rfl (Or.inl rfl)) pgs_nil))) (fun _ _ _ _ _ => pts_nil)
          (fun _ _ _ _ _ => pv 1)) pa_nil)))
      (pss_cons (ps_if (pt_cmp (pc_isN (pv 7))) (pss_one (ps_ret pe_non)) pss_nil)
      (pss_one (ps_ret (pe_tup (pa_cons pe_str (pa_cons (pv 7) pa_nil))))))))), ?_⟩
    have sz : ∀ {m : Nat}, m ≤ 1000 → m ≤ sizeLine := fun h => Nat.le_trans h (by decide)
    -- all are heads
    refine ⟨_, rfl, a, rfl, ⟨_, SqL.of ha⟩, for_list (K := K) (a := a) (xs := ls.map V.str) (fun i σ H1 => ∃ o1, σ = [some (.ref a), o1, none, none, none, none, none, none] ∧ H1 = H ∧ ∀ x ∈ ls.take i, isH x = true) ⟨none, rfl, rfl, fun x hx => by simp at hx⟩
      (fun i σ H1 _ ⟨_, _, e, _⟩ => by rw [e]; exact SqL.of ha) ?_ ?_⟩
    · rintro i x σ H1 hx ⟨o1, rfl, rfl, hall⟩
      rw [List.getElem?_map, Option.map_eq_some_iff] at hx
      obtain ⟨t, ht, rfl⟩ := hx
      have hm := List.mem_of_getElem? ht
      refine ⟨_, rfl, t, rfl, sz (hz t hm), fun e => ⟨_, rfl, rfl, fun x hx => ?_⟩, fun e => kE ⟨t, hm, e⟩⟩
      rw [List.take_add_one, ht] at hx
      rcases List.mem_append.mp hx with hx | hx
      · exact hall x hx
      · have : x = t := by simpa using hx
        rw [this]; exact e
    rintro σ H1 ⟨o1, rfl, rfl, hall⟩
    rw [List.length_map, List.take_length] at hall
    obtain ⟨l, rfl, hl⟩ := heads_of hall
    have kQ := kQ l rfl hl
    rw [List.length_map] at hn
    rw [← tvs_eq] at ha
    clear kE hall hz
    -- the places
    refine ⟨_, rfl, a, _, rfl, SqL.of ha, fun D hD => ?_⟩
    refine lc_enum (K := K) (a := a) (xs := tvs l) (fun i H2 => ∃ ps : List Addr, ps.length = i ∧ Same H1 H2 ∧ H2 D = some (.lst (ps.map V.ref)) ∧ ∀ (k : Nat) p, ps[k]? = some p → ∃ x, l[k]? = some x ∧ H2 p = some (.tup [tv x, .int (k : Int)])) ⟨[], rfl, Same.new hD, upd_same, fun k p h => by simp at h⟩
      (fun i H2 ⟨_, _, sm, _⟩ => SqL.of (sm _ _ ha)) ?_ ?_
    · rintro i x H2 Tp hx hT ⟨ps, pl, sm, hD2, hps⟩
      obtain ⟨u, hu, rfl⟩ := tvs_at hx
      have hi := (List.getElem?_eq_some_iff.mp hu).1
      refine ⟨Tp, _, rfl, SqT.of upd_same, rfl, _, _, rfl, _, _, rfl, rfl, rfl, _, rfl, _, rfl, by show 2 ≤ sizeLine; decide, fun p hp => ?_⟩
      have s1 : Same H2 (upd H2 Tp (.tup [.int (i : Nat), tv u])) := Same.new hT
      have s2 := s1.trans (Same.new (o := .tup [tv u, .int (i : Nat)]) hp)
      have hpH := s1.free hp
      have npD : p ≠ D := (ne_of_none hD2 hpH).symm
      have keepD : ∀ {c : Addr} {o : HO}, H2 c = some o → c ≠ D → (upd (upd (upd H2 Tp (.tup [.int (i : Nat), tv u])) p (.tup [tv u, .int (i : Nat)])) D (.lst (ps.map V.ref ++ [.ref p]))) c = some o := fun e n => by rw [upd_ne n]; exact s2 _ _ e
      refine ⟨_, s2 _ _ hD2, ?_, ps ++ [p], by simp [pl], fun c o e => keepD (sm _ _ e) (ne_of_none e hD), ?_, fun k p' h => ?_⟩
      · rw [List.length_map, pl]; exact small1000 (by omega)
      · rw [upd_same, List.map_append]; rfl
      · by_cases hk : k < ps.length
        · rw [List.getElem?_append_left hk] at h
          obtain ⟨x, h1, h2⟩ := hps k p' h
          exact ⟨x, h1, keepD h2 (ne_of h2 hD2 (by intro z; cases z))⟩
        · rw [List.getElem?_append_right (by omega)] at h
          have hk0 : k - ps.length = 0 := by
            have := (List.getElem?_eq_some_iff.mp h).1
            simp at this
            omega
          rw [hk0] at h
          have hp' : p = p' := by simpa using h
          subst hp'
          have : k = i := by omega
          subst this
          exact ⟨u, hu, by rw [upd_ne npD]; exact upd_same⟩
    rintro H2 ⟨ps, pl, s2, hD2, hps⟩
    rw [len_tvs] at pl
    have psz : ∀ p ∈ ps, ∃ (x : W) (k : Nat), l[k]? = some x ∧ H2 p = some (.tup [tv x, .int (k : Int)]) := fun p hp => by
      obtain ⟨k, hk⟩ := List.getElem?_of_mem hp
      obtain ⟨x, h1, h2⟩ := hps k p hk
      exact ⟨x, k, h1, h2⟩
    refine ⟨D, ps, keyOf H2, false, rfl, SqL.of hD2, by omega, fun p hp => ?_, fun ps' q pm so hq => ?_⟩
    · obtain ⟨x, k, _, h2⟩ := psz p hp
      exact ⟨_, _, _, h2, rfl, keyOf_at h2, rfl⟩
    have psz' : ∀ p ∈ ps', ∃ (x : W) (k : Nat), l[k]? = some x ∧ H2 p = some (.tup [tv x, .int (k : Int)]) := fun p hp => psz p (pm.mem_iff.mp hp)
    -- heads in order
    obtain ⟨xs, exs⟩ : ∃ xs, xs = ps'.map fun p => (vOf H2 p).1 := ⟨_, rfl⟩
    have pxs : xs.Perm l := by
      have e1 : ps.map (fun p => (vOf H2 p).1) = l := by
        refine List.ext_getElem? fun k => ?_
        rw [List.getElem?_map]
        cases e : ps[k]? with
        | none => rw [List.getElem?_eq_none (by have := List.getElem?_eq_none_iff.mp e; omega)]; rfl
        | some p =>
          obtain ⟨x, h1, h2⟩ := hps k p e
          rw [h1]
          show some (vOf H2 p).1 = some x
          rw [vOf_at h2]
      rw [exs, ← e1]
      exact pm.map _
    have nod : (ps'.map fun p => (vOf H2 p).2).Nodup := by
      have e1 : ps.map (fun p => (vOf H2 p).2) = List.range l.length := by
        refine List.ext_getElem? fun k => ?_
        rw [List.getElem?_map]
        cases e : ps[k]? with
        | none => rw [List.getElem?_eq_none (by have := List.getElem?_eq_none_iff.mp e; rw [List.length_range]; omega)]; rfl
        | some p =>
          obtain ⟨x, h1, h2⟩ := hps k p e
          have := (List.getElem?_eq_some_iff.mp h1).1
          rw [List.getElem?_range this]
          show some (vOf H2 p).2 = some k
          rw [vOf_at h2]
      refine (pm.map fun p => (vOf H2 p).2).nodup_iff.mpr ?_
      rw [e1]
      exact List.nodup_range
    have sxs : xs.Pairwise fun x y => ¬ lt y x := by
      rw [exs, List.pairwise_map]
      refine List.Pairwise.imp_of_mem (fun {p r} hp hr' q => ?_) so
      obtain ⟨x, k, _, h1⟩ := psz' p hp
      obtain ⟨y, j, _, h2⟩ := psz' r hr'
      rw [vOf_at h1, vOf_at h2]
      rw [keyOf_at h1, keyOf_at h2] at q
      exact key_le q
    have at_ : ∀ {H' : Hp} (i : Nat) p, Same H2 H' → ps'[i]? = some p → ∃ (x : W) (k : Nat), xs[i]? = some x ∧ l[k]? = some x ∧ H' p = some (.tup [tv x, .int (k : Int)]) ∧ (vOf H2 p).2 = k := fun {H'} i p sm hp => by
      obtain ⟨x, k, h1, h2⟩ := psz' p (List.mem_of_getElem? hp)
      refine ⟨x, k, ?_, h1, sm _ _ h2, by rw [vOf_at h2]⟩
      rw [exs, List.getElem?_map, hp]
      show some (vOf H2 p).1 = some x
      rw [vOf_at h2]
    have lxs : xs.length = ps'.length := by rw [exs, List.length_map]
    have lps : ps'.length = l.length := pm.length_eq.trans pl
    have s3 : Same H2 (upd H2 q (.lst (ps'.map V.ref))) := Same.new hq
    -- neighbours
    refine ⟨_, rfl, _, rfl, _, rfl, q, _, rfl, SqL.of upd_same, fun q2 hq2 => ?_⟩
    rw [cut_tlG]
    have s4 := s3.trans (Same.new (o := .lst ((ps'.drop 1).map V.ref)) hq2)
    have hq4 : (upd (upd H2 q (.lst (ps'.map V.ref))) q2 (.lst ((ps'.drop 1).map V.ref))) q = some (.lst (ps'.map V.ref)) := (Same.new hq2) _ _ upd_same
    refine ⟨q, q2, _, _, rfl, SqL.of hq4, SqL.of upd_same, for_zip (K := K) (a := q) (b := q2) (xs := ps'.map V.ref) (ys := (ps'.drop 1).map V.ref) (fun i σ H5 => ∃ o1 o3 o4 o5 o6, σ = [some (.ref a), o1, some (.ref q), o3, o4, o5, o6, none] ∧
      Same (upd (upd H2 q (.lst (ps'.map V.ref))) q2 (.lst ((ps'.drop 1).map V.ref))) H5 ∧ ∀ j x y, j < i → xs[j]? = some x → xs[j + 1]? = some y → ¬ x <+: y) ⟨_, _, _, _, _, rfl, Same.refl _, fun j x y h => by omega⟩ (fun i σ H5 ⟨_, _, _, _, _, _, z, _⟩ => ⟨SqL.of (z _ _ hq4), SqL.of (z _ _ upd_same)⟩) ?_ ?_⟩
    · rintro i x y σ H5 Tp hx hy hT ⟨o1, o3, o4, o5, o6, rfl, s5, near⟩
      rw [List.getElem?_map, Option.map_eq_some_iff] at hx hy
      obtain ⟨p, hp, rfl⟩ := hx
      obtain ⟨p', hp', rfl⟩ := hy
      rw [List.getElem?_drop, Nat.add_comm] at hp'
      have s6 := (s4.trans s5).trans (Same.new (o := .tup [.ref p, .ref p']) hT)
      obtain ⟨u, k, u1, u2, u3, u4⟩ := at_ i p s6 hp
      obtain ⟨v, j, v1, v2, v3, v4⟩ := at_ (i + 1) p' s6 hp'
      have lu : u.length ≤ 60 := hl u (List.mem_of_getElem? u2)
      have nkj : k ≠ j := fun e => by
        have g1 : (ps'.map fun p => (vOf H2 p).2)[i]? = some k := by rw [List.getElem?_map, hp]; exact congrArg some u4
        have g2 : (ps'.map fun p => (vOf H2 p).2)[i + 1]? = some k := by rw [List.getElem?_map, hp']; exact congrArg some (v4.trans e.symm)
        have := (List.getElem?_inj (List.getElem?_eq_some_iff.mp g1).1 nod).mp (g1.trans g2.symm)
        omega
      refine ⟨Tp, _, rfl, SqT.of upd_same, rfl, _, _, rfl, p, _, rfl, SqT.of u3, rfl, _, _, rfl, _, _, rfl, rfl, _, _, rfl, p', _, rfl, SqT.of v3, rfl, _, _, rfl, _, _, rfl, rfl, rfl, ?_⟩
      refine ⟨_, rfl, ⟨_, rfl⟩, _, rfl, _, _, rfl, rfl, _, rfl, ?_⟩
      rw [starts_tx_dec]
      by_cases pr : u <+: v
      · rw [decide_eq_true pr]
        refine iteT ⟨_, rfl, _, rfl, _, _, rfl, _, rfl, _, rfl, _, _, rfl, by show 3 ≤ sizeLine; decide, fun t ht => ?_⟩
        have s7 := s6.trans (Same.new (o := .tup [.str "both", .int (if (j : Int) < k then j else k), .int (if (j : Int) > k then j else k)]) ht)
        refine kQ _ _ (s2.trans s7) (.inr (.inl ?_))
        rcases Nat.lt_or_ge j k with h | h
        · refine ⟨t, j, k, v, u, rfl, ?_, h, v2, u2, fun z => z.2 pr⟩
          rw [upd_same, if_pos (by omega), if_neg (by omega)]
        · refine ⟨t, k, j, u, v, rfl, ?_, by omega, u2, v2, fun z => z.1 pr⟩
          rw [upd_same, if_neg (by omega), if_pos (by omega)]
      · rw [decide_eq_false pr]
        refine iteF ⟨_, _, _, _, _, rfl, s5.trans (Same.new hT), fun j' x y h h1 h2 => ?_⟩
        by_cases e : j' = i
        · subst e
          rw [u1] at h1
          rw [v1] at h2
          cases h1
          cases h2
          exact pr
        · exact near j' x y (by omega) h1 h2
    rintro σ H5 ⟨o1, o3, o4, o5, o6, rfl, s5, near⟩
    rw [List.length_map, List.length_map, List.length_drop] at near
    have an : Anti xs := anti_near sxs fun i x y h1 h2 => near i x y (by have := (List.getElem?_eq_some_iff.mp h2).1; omega) h1 h2
    have st := strict sxs an.nodup
    have hq5 := s5 _ _ hq4
    have s25 : Same H2 H5 := s4.trans s5
    have hxl : ∀ x ∈ xs, x.length ≤ 60 := fun x hx => hl x (pxs.mem_iff.mp hx)
    -- what is left out
    refine ⟨_, rfl, q, rfl, ⟨_, SqL.of hq5⟩, fun D2 hD2' => ?_⟩
    refine lc_list (K := K) (a := q) (xs := ps'.map V.ref) (fun i H6 => Same H5 H6 ∧ H6 D2 = some (.lst (tvs (xs.take i)))) ⟨Same.new hD2', upd_same⟩ (fun i H6 _ z => SqL.of (z.1 _ _ hq5)) ?_ ?_
    · rintro i x H6 hx ⟨s6, hD6⟩
      rw [List.getElem?_map, Option.map_eq_some_iff] at hx
      obtain ⟨p, hp, rfl⟩ := hx
      obtain ⟨u, k, u1, u2, u3, u4⟩ := at_ i p (s25.trans s6) hp
      refine ⟨p, _, rfl, SqT.of u3, rfl, _, _, rfl, _, _, rfl, rfl, rfl, _, rfl, _, hD6, ?_, fun c o e => ?_, ?_⟩
      · rw [len_tvs]; exact Nat.lt_of_le_of_lt (List.length_take_le _ _) (small1000 (by have := (List.getElem?_eq_some_iff.mp u1).1; omega))
      · rw [upd_ne (ne_of_none e hD2')]; exact s6 _ _ e
      · rw [upd_same, List.take_add_one, u1]
        unfold tvs
        rw [List.map_append]
        rfl
    rintro H6 ⟨s6, hD6⟩
    rw [List.length_map, ← lxs, List.take_length] at hD6
    have s16 : Same H1 H6 := (s2.trans s25).trans s6
    refine ⟨D2, xs, rfl, hD6, st, an, fun x hx => Nat.le_trans (hxl x hx) (by decide), fun m hm hap => ?_, fun de => ?_⟩
    · refine ⟨_, rfl, _, rfl, iteF ⟨_, rfl, by show 2 ≤ sizeLine; decide, fun t ht => ?_⟩⟩
      exact kQ _ _ (s16.trans (Same.new ht)) (.inr (.inr ⟨t, m, rfl, upd_same, fun x hx => hap x (pxs.mem_iff.mpr hx), hm⟩))
    · refine ⟨_, rfl, _, rfl, iteT ?_⟩
      exact kQ _ _ s16 (.inl ⟨rfl, an.perm pxs, fun r => (den_perm pxs r).mp (de r)⟩)
end
end Hs

/-! part K14fr -/
set_option Elab.async false
set_option linter.all false
set_option maxRecDepth 100000
set_option maxHeartbeats 1000000
namespace Hs
open PySem L2 Hm
abbrev sFr : Stmt := top 42
/-- texts of a table are not too long -/
def Sz (B : Nat) (T : Tb) : Prop := ∀ z ∈ T, z.1.length ≤ B ∧ z.2.length ≤ B
def spFr (K : PySem.W.Frag) : Sp := fun vs H Q _ => ∃ (a : Addr) (b : Bool) (T : Tb), vs = [.ref a] ∧ BT K b H a T ∧ Xc T ∧ T.length ≤ 1000 ∧ Sz 10000 T ∧
  ∀ p H' F, H p = none → Same H H' → NT H' p F → Few T F → F.length ≤ T.length → Sz 10000 F → Q (.ref p) H'
section
variable {P : Program} {w : World} {K : PySem.W.Frag} {mg : Str → Option Value} {base : Heap}
theorem scFr : FnScope ["rows", "told", "head", "other"] ["rows"] (defScope sFr) := ⟨rfl, rfl, rfl, by decide +kernel, rfl, by decide +kernel, by decide +kernel⟩
theorem ok_fr {f : Addr} {fd : FuncData} (F : Fun K "fewest_rows" "fewest_rows" sFr f fd) (T : Txt mg) : FnOk P w K mg base CX0 1 f fd ["rows"] (spFr K) := by
  refine F.ok scFr (fun vs H Q E h => ?_) (fun cdv A outer s H vs Q E hr h => ?_)
  · obtain ⟨a, b, T, rfl, _⟩ := h
    rfl
  · obtain ⟨a, b, S, rfl, ⟨ps, hq, hps⟩, xc, lT, zT, k⟩ := h
    refine ⟨_, pss_cons (ps_set (i := 1) scFr.nd rfl (Or.inl rfl) (pe_lst pa_nil))
      (pss_cons (ps_for PassesOwn.never rfl (pi_list (pe_callB cr_sortedT (by rfl) T.sorted b_sorted (pa_cons
          (pe_lc (own := [("head", 2), ("other", 3)]) (g := gTup K 2 (gCons (gName 2) (gCons (gName 3) gNil))) (by rfl) scFr.nd (pi_or (pi_list (pv 0)) (pi_tup (pv 0))) (blkOk_by (own := [("head", 2), ("other", 3)]) (N := ["rows", "told", "head", "other"]) (sc := defScope sFr) (by decide +kernel))
            (fun _ _ _ _ _ => pg_tup rfl (pgs_cons (pg_name (i := 2) scFr.nd rfl (Or.inl rfl)) (pgs_cons (pg_name (i := 3) scFr.nd rfl (Or.inl rfl)) pgs_nil))) (fun _ _ _ _ _ => pts_nil) (fun _ _ _ _ _ => pe_tup (pa_cons (pv 2) (pa_cons (pv 3) pa_nil)))) pa_nil)))
          (pg_tup rfl (pgs_cons (pg_name (i := 2) scFr.nd rfl (Or.inl rfl)) (pgs_cons (pg_name (i := 3) scFr.nd rfl (Or.inl rfl)) pgs_nil)))
        (pss_cons (ps_while PassesOwn.never (PW.pt (pw_and (pt_truth (pv 1) (by intro _; rfl)) (pw_and1 (pt_cmpR (op_eqD hr.units) (pe_ix ix_list (pv 1) (pe_un un_neg pe_int) (fun _ _ => rfl))
            (pe_tup (pa_cons (pe_op op_add_str (pe_slice sl_str (pv 2) po_none (po_some (pe_un un_neg pe_int))) pe_str) (pa_cons (pe_op op_add_str (pe_slice sl_str (pv 3) po_none (po_some (pe_un un_neg pe_int))) pe_str) pa_nil))) (nomark _)))))
          (pss_cons (ps_expr (pe_bm0 PySem.F.plainAttrs_list PySem.F.slot_list_pop PySem.F.type_list_pop mt_pop (pv 1)))
          (pss_cons (ps_set (i := 2) scFr.nd rfl (Or.inl rfl) (pe_slice sl_str (pv 2) po_none (po_some (pe_un un_neg pe_int))))
          (pss_one (ps_set (i := 3) scFr.nd rfl (Or.inl rfl) (pe_slice sl_str (pv 3) po_none (po_some (pe_un un_neg pe_int))))))))
        (pss_one (ps_expr (pe_bm PySem.F.plainAttrs_list PySem.F.slot_list_append PySem.F.type_list_append mt_append (pv 1) (pa_cons (pe_tup (pa_cons (pv 2) (pa_cons (pv 3) pa_nil))) pa_nil))))))
      (pss_one (ps_ret (pv 1)))), ?_⟩
    have big : ∀ {m : Nat}, m ≤ 100000 → m ≤ sizeLine := fun h => Nat.le_trans h (by decide)
    refine seq_gen (fun σ H1 => ∃ p : Addr, σ = [some (.ref a), some (.ref p), none, none] ∧ H p = none ∧ H1 = upd H p (.lst [])) (fun nx hn => ⟨by show 0 ≤ sizeLine; decide, fun p hp => hn _ _ ⟨p, rfl, hp, rfl⟩⟩) ?_
    rintro _ _ ⟨p, rfl, hp, rfl⟩
    have s1 : Same H (upd H p (.lst [])) := Same.new hp
    refine seq_gen (fun σ H2 => ∃ (told : Tb) (o2 o3 : Option V), σ = [some (.ref a), some (.ref p), o2, o3] ∧ Same H H2 ∧ NT H2 p told ∧ Few S told ∧ told.length ≤ S.length ∧ Sz 10000 told) (fun nx hn => for_sorted ?_) ?_
    case refine_2 =>
      rintro σ H2 ⟨told, o2, o3, rfl, sm, lt, fw, ll, ts⟩
      exact ⟨_, rfl, k p H2 told hp sm lt fw ll ts⟩
    -- the pairs anew
    refine lc_or (K := K) (b := b) (a := a) (xs := ps.map V.ref) rfl (hq.same s1) (fun D i H1 => ∃ qs : List Addr, Same (upd H p (.lst [])) H1 ∧ H1 D = some (.lst (qs.map V.ref)) ∧ PTn H1 qs (S.take i)) (fun D hD => ⟨[], Same.new hD, upd_same, .nil⟩)
      (fun D i H1 hD _ ⟨_, z, _⟩ => hq.same (s1.trans z)) ?_ ?_
    · rintro D i x H1 hD hx ⟨qs, sm, hD1, hqs⟩
      rw [List.getElem?_map, Option.map_eq_some_iff] at hx
      obtain ⟨r, hr', rfl⟩ := hx
      obtain ⟨z, hz, sz⟩ := (PTs.keep (.of (s1.trans sm)) hps).at i hr'
      refine ⟨r, _, rfl, sz, rfl, _, _, rfl, _, _, rfl, rfl, rfl, _, rfl, _, rfl, by show 2 ≤ sizeLine; decide, fun t ht => ?_⟩
      have st : Same H1 (upd H1 t (.tup [tv z.1, tv z.2])) := Same.new ht
      have ld := hqs.len
      rw [List.length_take] at ld
      refine ⟨_, st _ _ hD1, ?_, qs ++ [t], fun c o e => ?_, by rw [upd_same, List.map_append]; rfl, ?_⟩
      · rw [List.length_map]; exact Nat.lt_of_lt_of_le (show qs.length < 1001 by omega) (by decide)
      · rw [upd_ne (ne_of_none e hD)]; exact st _ _ (sm _ _ e)
      · rw [List.take_add_one, hz]
        have kk : KpT (upd H1 t (.tup [tv z.1, tv z.2])) (upd (upd H1 t (.tup [tv z.1, tv z.2])) D (.lst (qs.map V.ref ++ [.ref t]))) := KpT.set (st _ _ hD1) (fun _ z => nomatch z) (fun _ _ z => nomatch z)
        exact (PTn.keep ((KpT.of st).trans kk) hqs).app (.cons (kk.t _ _ upd_same) .nil)
    rintro D H1 hD ⟨qs, sm, hD1, hqs⟩
    have lps := hps.len
    rw [List.length_map, lps, List.take_length] at hqs
    have lqs := hqs.len
    -- in order
    refine ⟨D, qs, keyP H1, true, rfl, SqL.of hD1, by omega, fun q hq' => ?_, fun qs' q pm so hq' => ?_⟩
    · obtain ⟨z, _, e⟩ := hqs.mem hq'
      exact ⟨_, _, _, e, rfl, keyP_at e, rfl⟩
    obtain ⟨S', hS', pS⟩ := hqs.perm pm
    have xc' : Xc S' := xc.perm pS.symm
    have sd : Sd S' := sd_of xc'.h.an (hS'.pair (S := fun p r => KeyLe (keyP H1 p) (keyP H1 r)) (fun p r y z e1 e2 le => by rw [keyP_at e1, keyP_at e2] at le; exact keyP_le le) so)
    have lS' : S'.length = S.length := pS.length_eq
    have lq' := hS'.len
    have zS' : Sz 10000 S' := fun z hz => zT z (pS.mem_iff.mp hz)
    have hp1 : H1 p = some (.lst []) := sm _ _ upd_same
    have npq : p ≠ q := ne_of_none hp1 hq'
    have s2 : Same H (upd H1 q (.lst (qs'.map V.ref))) := (s1.trans sm).trans (Same.new hq')
    refine ⟨q, rfl, ⟨_, SqL.of upd_same⟩, for_list (K := K) (a := q) (xs := qs'.map V.ref) (fun i σ H2 => ∃ (told : Tb) (tps : List Addr) (o2 o3 : Option V), σ = [some (.ref a), some (.ref p), o2, o3] ∧ Same H H2 ∧ H2 q = some (.lst (qs'.map V.ref)) ∧ PTs K H2 qs' S' ∧ H2 p = some (.lst (tps.map V.ref)) ∧ PTn H2 tps told ∧
      Gd S told (S'.drop i) ∧ told.length ≤ i ∧ Sz 10000 told) ?_ ?_ ?_ ?_⟩
    · exact ⟨[], [], none, none, rfl, s2, upd_same, PTs.keep (.of (Same.new hq')) (PTn.s hS'), by rw [upd_ne npq]; exact hp1, .nil, gd_start pS sd xc, Nat.le_refl _, fun z hz => by cases hz⟩
    · rintro i σ H2 _ ⟨told, tps, o2, o3, _, _, h, _⟩
      exact SqL.of h
    · rintro i x σ H2 hx ⟨told, tps, o2, o3, rfl, sm2, hq2, pq2, hp2, pt2, g, tl, ts⟩
      rw [List.getElem?_map, Option.map_eq_some_iff] at hx
      obtain ⟨r, hr', rfl⟩ := hx
      obtain ⟨z, hz, sz⟩ := pq2.at i hr'
      have hi : i < S'.length := (List.getElem?_eq_some_iff.mp hz).1
      have ed : S'.drop i = z :: S'.drop (i + 1) := by
        rw [← List.getElem_cons_drop hi]
        rw [List.getElem?_eq_getElem hi] at hz
        rw [Option.some.inj hz]
      rw [ed] at g
      have zz := zS' z (List.mem_of_getElem? hz)
      refine ⟨r, _, rfl, sz, rfl, _, _, rfl, _, _, rfl, rfl, ?_⟩
      dsimp only [gName]
      refine seq_gen (fun σ H3 => ∃ (told : Tb) (tps : List Addr) (z : W × W), σ = [some (.ref a), some (.ref p), some (tv z.1), some (tv z.2)] ∧ Same H H3 ∧ H3 q = some (.lst (qs'.map V.ref)) ∧ PTs K H3 qs' S' ∧ H3 p = some (.lst (tps.map V.ref)) ∧ PTn H3 tps told ∧
        Gd S told (z :: S'.drop (i + 1)) ∧ told.length ≤ i ∧ Sz 10000 told ∧ (z.1.length ≤ 10000 ∧ z.2.length ≤ 10000) ∧ ∀ c, told.getLast? = some c → ¬ SibT c z) (fun nx hn => ?_) ?_
      · refine ⟨fun n σ H3 => ∃ (told : Tb) (tps : List Addr) (z : W × W), n = told.length ∧ σ = [some (.ref a), some (.ref p), some (tv z.1), some (tv z.2)] ∧ Same H H3 ∧ H3 q = some (.lst (qs'.map V.ref)) ∧ PTs K H3 qs' S' ∧ H3 p = some (.lst (tps.map V.ref)) ∧ PTn H3 tps told ∧
          Gd S told (z :: S'.drop (i + 1)) ∧ told.length ≤ i ∧ Sz 10000 told ∧ (z.1.length ≤ 10000 ∧ z.2.length ≤ 10000), ⟨_, told, tps, z, rfl, rfl, sm2, hq2, pq2, hp2, pt2, g, tl, ts, zz⟩, ?_⟩
        rintro n σ H3 ⟨told, tps, z, rfl, rfl, sm3, hq3, pq3, hp3, pt3, g, tl, ts, zz⟩
        have ltp := pt3.len
        refine ⟨_, rfl, _, .inl ⟨_, SqL.of hp3, rfl⟩, ?_⟩
        rcases List.eq_nil_or_concat told with rfl | ⟨t0, c, rfl⟩
        · have e0 : tps = [] := List.eq_nil_of_length_eq_zero ltp
          subst e0
          exact iteF (iteF (hn _ _ ⟨[], [], z, rfl, sm3, hq3, pq3, hp3, pt3, g, tl, ts, zz, fun c e => by cases e⟩))
        rw [List.concat_eq_append] at pt3 g tl ts ltp ⊢
        rcases List.eq_nil_or_concat tps with rfl | ⟨tp0, cp, rfl⟩
        · simp at ltp
        rw [List.concat_eq_append] at pt3 hp3 ltp ⊢
        have l0 : tp0.length = t0.length := by simp at ltp; exact ltp
        obtain ⟨c', hc', scp⟩ := pt3.at tp0.length (q := cp) (by simp)
        have ec : c' = c := by rw [l0] at hc'; simp at hc'; exact hc'.symm
        subst ec
        have ne : (!((tp0 ++ [cp]).map V.ref).isEmpty) = true := by rw [List.map_append]; simp
        rw [ne]
        have eL : atI ((tp0 ++ [cp]).map V.ref) (-1) = some (.ref cp) := by rw [List.map_append]; exact atI_last _ _
        have lz1 : (tx z.1).length ≤ 10000 := by rw [tx_len]; exact zz.1
        have lz2 : (tx z.2).length ≤ 10000 := by rw [tx_len]; exact zz.2
        refine iteT ⟨_, rfl, _, rfl, p, _, _, _, rfl, rfl, SqL.of hp3, eL, _, rfl, _, rfl, _, rfl, _, rfl, big (by omega), ?_⟩
        rw [show -(1 : Int) = -1 from rfl, cut_last]
        refine ⟨_, _, rfl, rfl, by rw [tx_len, List.length_dropLast]; exact big (show z.1.length - 1 + 1 ≤ 100000 by omega), ?_⟩
        rw [tx_a0]
        refine ⟨_, rfl, _, rfl, _, rfl, _, rfl, big (by omega), ?_⟩
        rw [show -(1 : Int) = -1 from rfl, cut_last]
        refine ⟨_, _, rfl, rfl, by rw [tx_len, List.length_dropLast]; exact big (show z.2.length - 1 + 1 ≤ 100000 by omega), ?_⟩
        rw [tx_a0]
        refine ⟨by show 2 ≤ sizeLine; decide, fun u hu => ?_⟩
        have su : Same H3 (upd H3 u (.tup [tv (z.1.dropLast ++ [false]), tv (z.2.dropLast ++ [false])])) := Same.new hu
        refine ⟨d2 (tx c'.1) (tx c'.2), d2 (tx (z.1.dropLast ++ [false])) (tx (z.2.dropLast ++ [false])), .tup (SqT.of (su _ _ scp)) (.cons (.str _) (.cons (.str _) .nil)), dp_d2 upd_same, shaped_d2 _ _, shaped_d2 _ _, _, rfl, ?_⟩
        rw [eqv_d2W]
        have ha : Ap c'.1 z.1 := by
          have := g.x.h.an
          unfold hds at this
          rw [List.map_append, List.map_append] at this
          exact (List.pairwise_append.mp (show List.Pairwise Ap _ from this)).2.2 _ (by simp) _ (by simp)
        have ho : Ap c'.2 z.2 := by
          have := g.x.o.an
          unfold ots at this
          rw [List.map_append, List.map_append] at this
          exact (List.pairwise_append.mp (show List.Pairwise Ap _ from this)).2.2 _ (by simp) _ (by simp)
        by_cases sb : SibT c' z
        · have e1 := (sibT_iff ha ho).mpr sb
          have d1 : c'.1 = z.1.dropLast ++ [false] := congrArg Prod.fst e1
          have d2' : c'.2 = z.2.dropLast ++ [false] := congrArg Prod.snd e1
          rw [decide_eq_true ⟨d1, d2'⟩]
          refine iteT ?_
          obtain ⟨t, s', rfl, rfl⟩ := sb
          have kp : KpT (upd H3 u (.tup [tv ((t ++ [true]).dropLast ++ [false]), tv ((s' ++ [true]).dropLast ++ [false])])) (upd (upd H3 u (.tup [tv ((t ++ [true]).dropLast ++ [false]), tv ((s' ++ [true]).dropLast ++ [false])])) p (.lst (tp0.map V.ref))) := KpT.set (su _ _ hp3) (fun _ z => nomatch z) (fun _ _ z => nomatch z)
          have kp3 := (KpT.of su).trans kp
          refine ⟨fun σ' H' => ∃ (told : Tb) (tps : List Addr) (z : W × W), told.length < (t0 ++ [(t ++ [false], s' ++ [false])]).length ∧ σ' = [some (.ref a), some (.ref p), some (tv z.1), some (tv z.2)] ∧ Same H H' ∧ H' q = some (.lst (qs'.map V.ref)) ∧ PTs K H' qs' S' ∧ H' p = some (.lst (tps.map V.ref)) ∧ PTn H' tps told ∧
            Gd S told (z :: S'.drop (i + 1)) ∧ told.length ≤ i ∧ Sz 10000 told ∧ (z.1.length ≤ 10000 ∧ z.2.length ≤ 10000), fun σ' H' ⟨told, tps, z, ln, e⟩ => ⟨_, ln, told, tps, z, rfl, e⟩, ?_⟩
          have eG : ((tp0 ++ [cp]).map V.ref)[((tp0 ++ [cp]).map V.ref).length - 1]? = some (.ref cp) := by rw [List.map_append]; simp
          have eD : ((tp0 ++ [cp]).map V.ref).dropLast = tp0.map V.ref := by rw [List.map_append]; exact List.dropLast_concat ..
          refine ⟨_, rfl, .inl ⟨rfl, _, SqL.of (su _ _ hp3)⟩, p, _, _, rfl, rfl, su _ _ hp3, eG, ?_⟩
          rw [eD]
          refine ⟨_, rfl, _, rfl, _, rfl, _, rfl, big (by omega), _, rfl, _, rfl, _, rfl, _, rfl, big (by omega), ?_⟩
          rw [show -(1 : Int) = -1 from rfl, cut_last, cut_last]
          refine ⟨t0, tp0, (t, s'), by simp, ?_, fun c o e => ?_, ?_, PTs.keep kp3 pq3, upd_same, ?_, gd_merge g, ?_, fun y hy => ts y (by simp [hy]), ?_⟩
          · rw [List.dropLast_concat, List.dropLast_concat]
            rfl
          · rw [upd_ne (ne_of_none e hp)]; exact su _ _ (sm3 c o e)
          · rw [upd_ne npq.symm]; exact su _ _ hq3
          · have := PTn.keep kp3 pt3
            have := this.dropLast
            have e1 : (tp0 ++ [cp]).dropLast = tp0 := List.dropLast_concat ..
            have e2 : (t0 ++ [(t ++ [false], s' ++ [false])]).dropLast = t0 := List.dropLast_concat ..
            rw [e1, e2] at this
            exact this
          · rw [List.length_append] at tl; omega
          · have := zz
            simp at this ⊢
            omega
        · have nd : ¬ (c'.1 = z.1.dropLast ++ [false] ∧ c'.2 = z.2.dropLast ++ [false]) := fun e => sb ((sibT_iff ha ho).mp (Prod.ext e.1 e.2))
          rw [decide_eq_false nd]
          refine iteF (hn _ _ ⟨t0 ++ [c'], tp0 ++ [cp], z, rfl, sm3.trans su, su _ _ hq3, PTs.keep (.of su) pq3, su _ _ hp3, PTn.keep (.of su) pt3, g, tl, ts, zz, fun d e => ?_⟩)
          have : c' = d := by simpa using e
          rw [← this]; exact sb
      · rintro σ H3 ⟨told, tps, z, rfl, sm3, hq3, pq3, hp3, pt3, g, tl, ts, zz, nl⟩
        have ltp := pt3.len
        refine ⟨_, rfl, .inl ⟨rfl, _, SqL.of hp3⟩, _, rfl, _, rfl, by show 2 ≤ sizeLine; decide, fun u hu => ?_⟩
        have su : Same H3 (upd H3 u (.tup [tv z.1, tv z.2])) := Same.new hu
        have kp : KpT (upd H3 u (.tup [tv z.1, tv z.2])) (upd (upd H3 u (.tup [tv z.1, tv z.2])) p (.lst (tps.map V.ref ++ [.ref u]))) := KpT.set (su _ _ hp3) (fun _ z => nomatch z) (fun _ _ z => nomatch z)
        refine ⟨p, _, _, rfl, rfl, su _ _ hp3, ?_, told ++ [z], tps ++ [u], _, _, rfl, fun c o e => ?_, ?_, PTs.keep ((KpT.of su).trans kp) pq3, by rw [upd_same, List.map_append]; rfl, ?_, gd_put g nl, ?_, fun y hy => ?_⟩
        · rw [List.length_map, ltp]; exact Nat.lt_of_lt_of_le (show told.length < 1001 by omega) (by decide)
        · rw [upd_ne (ne_of_none e hp)]; exact su _ _ (sm3 c o e)
        · rw [upd_ne npq.symm]; exact su _ _ hq3
        · exact (PTn.keep ((KpT.of su).trans kp) pt3).app (.cons (kp.t _ _ upd_same) .nil)
        · rw [List.length_append]; show told.length + 1 ≤ i + 1; omega
        · rcases List.mem_append.mp hy with hy | hy
          · exact ts y hy
          · rw [List.mem_singleton.mp hy]; exact zz
    · rintro σ H2 ⟨told, tps, o2, o3, rfl, sm2, hq2, pq2, hp2, pt2, g, tl, ts⟩
      rw [List.length_map, lq', List.drop_length] at g
      rw [List.length_map, lq'] at tl
      exact hn _ _ ⟨told, o2, o3, rfl, sm2, ⟨tps, hp2, pt2⟩, gd_end g, by omega, ts⟩
end
end Hs

/-! part K14lfew -/
set_option Elab.async false
set_option linter.all false
set_option maxRecDepth 100000
set_option maxHeartbeats 1000000
namespace Hs
open PySem L2 Hm
abbrev sLfew : Stmt := top 71
theorem b_dict : bootBuiltins "dict" = some (.type "dict") := by decide +kernel
def spLfew (K : PySem.W.Frag) : Sp := fun vs H Q _ => ∃ (a : Addr) (T : Tb), vs = [.ref a] ∧ LT K H a T ∧ Xc T ∧ T.length < 64 ∧ Sz 1000 T ∧
  ∀ p H' G, H p = none → Same H H' → NT H' p G → Few T G → G.length ≤ T.length → Sz 1000 G → Q (.ref p) H'
abbrev NW : List Str := ["_law_rows_here", "_law_found", "_law_again", "_law_head", "_law_low", "_law_high"]
/-- what the law looks for at a head: halves of one row -/
def Mg (F : Tb) (h : W) : Prop := ∃ t s b, h = t ++ [b] ∧ (t ++ [false], s ++ [false]) ∈ F ∧ (t ++ [true], s ++ [true]) ∈ F
theorem rdc_of {F : Tb} (n : ∀ h ∈ hds F, ¬ Mg F h) : Rdc F := fun t s ⟨m0, m1⟩ => n (t ++ [false]) (List.mem_map.mpr ⟨_, m0, rfl⟩) ⟨t, s, false, rfl, m0, m1⟩
theorem cut_endS (z : Str) (h : z.length = 1) : cutS z (some (-1)) none = z := by
  refine str_ext ?_
  have lz : z.cps.toList.length = 1 := by simpa [Str.length] using h
  show (z.cps.toList.drop (HT.sIx z.length 0 (some (-1)))).take (HT.sIx z.length z.length none - HT.sIx z.length 0 (some (-1))) = _
  rw [sIx_m1, HT.sIx_none, h]
  show (z.cps.toList.drop 0).take 1 = _
  rw [List.drop_zero, List.take_of_length_le (by omega)]
/-- a row of the merged table -/
theorem few_step {F : Tb} {t s : W} (x : Xc F) (m0 : (t ++ [false], s ++ [false]) ∈ F) (m1 : (t ++ [true], s ++ [true]) ∈ F) :
    ∃ G : Tb, (F.filter fun z => decide (z.1 ≠ t ++ [false])).filter (fun z => decide (z.1 ≠ t ++ [true])) = G ∧ (t ++ [true], s ++ [true]) ∈ F.filter (fun z => decide (z.1 ≠ t ++ [false])) ∧ t ∉ hds G ∧ Xc (G ++ [(t, s)]) ∧ Eqv F (G ++ [(t, s)]) ∧ (G ++ [(t, s)]).length + 1 = F.length ∧ ∀ z ∈ G, z ∈ F := by
  have nd := x.h.an.nodup
  have p0 := filter_perm nd m0
  have m1' : (t ++ [true], s ++ [true]) ∈ F.filter (fun z => decide (z.1 ≠ t ++ [false])) := List.mem_filter.mpr ⟨m1, decide_eq_true (by simp)⟩
  have nd1 : (hds (F.filter (fun z => decide (z.1 ≠ t ++ [false])))).Nodup := by
    have := (p0.map Prod.fst).nodup_iff.mp nd
    exact (List.nodup_cons.mp this).2
  have p1 := filter_perm nd1 m1'
  have pm := p0.trans (p1.cons _)
  obtain ⟨x1, e1⟩ := xc_merge pm x
  have pm2 : ((t, s) :: (F.filter fun z => decide (z.1 ≠ t ++ [false])).filter (fun z => decide (z.1 ≠ t ++ [true]))).Perm ((F.filter fun z => decide (z.1 ≠ t ++ [false])).filter (fun z => decide (z.1 ≠ t ++ [true])) ++ [(t, s)]) := by
    have := List.perm_append_comm (l₁ := [(t, s)]) (l₂ := (F.filter fun z => decide (z.1 ≠ t ++ [false])).filter (fun z => decide (z.1 ≠ t ++ [true])))
    exact this
  refine ⟨_, rfl, m1', ?_, x1.perm pm2, e1.trans (eqv_mem fun z => pm2.mem_iff), ?_, fun z hz => (List.mem_filter.mp (List.mem_filter.mp hz).1).1⟩
  · have := x1.h.an.nodup
    exact (List.nodup_cons.mp this).1
  · have := pm.length_eq
    rw [List.length_append]
    simp at this ⊢
    omega
/-- what is got by a head -/
def Gt (F : Tb) (x : W) (z : Str) : Prop := (∃ k, (x, k) ∈ F ∧ z = tx k) ∨ (x ∉ hds F ∧ z = "?")
theorem gt_ex {F : Tb} (nd : (hds F).Nodup) (x : W) : ∃ z : Str, (valV (dkv F) (Sum.inr (tx x))).getD (.str "?") = .str z ∧ Gt F x z := by
  rcases val_cases nd x with ⟨k, m, e⟩ | ⟨n, e⟩
  · exact ⟨tx k, by rw [e]; rfl, .inl ⟨k, m, rfl⟩⟩
  · exact ⟨"?", by rw [e]; rfl, .inr ⟨n, rfl⟩⟩
theorem gt_len {F : Tb} {x : W} {z : Str} {n : Nat} (s : Sz n F) (g : Gt F x z) : z.length ≤ n + 1 := by
  rcases g with ⟨k, m, rfl⟩ | ⟨_, rfl⟩
  · rw [tx_len]; have := (s _ m).2; exact Nat.le_succ_of_le this
  · show 1 ≤ n + 1; omega
theorem gt_end {F : Tb} {x : W} {z : Str} {b : Bool} (g : Gt F x z) (e : cutS z (some (-1)) none = tx [b]) : ∃ s, z = tx (s ++ [b]) ∧ (x, s ++ [b]) ∈ F := by
  rcases g with ⟨k, m, rfl⟩ | ⟨_, rfl⟩
  · rcases List.eq_nil_or_concat k with rfl | ⟨s, c, rfl⟩
    · rw [end_nil] at e
      have := tx_inj e
      cases this
    · rw [List.concat_eq_append] at e m ⊢
      rw [end_snoc] at e
      have := tx_inj e
      cases this
      exact ⟨s, rfl, m⟩
  · rw [cut_endS _ rfl] at e
    have e2 := congrArg (fun z : Str => z.cps.toList) e
    have e3 : (("?" : Str)).cps.toList = [63] := TL.tl_ofString "?"
    simp only [e3, tl_tx] at e2
    cases b <;> simp [cp] at e2
theorem mg_tests {F : Tb} (nd : (hds F).Nodup) {h : W} {zl zh : Str} (g1 : Gt F (h.dropLast ++ [false]) zl) (g2 : Gt F (h.dropLast ++ [true]) zh) :
    (h ≠ [] ∧ cutS zl none (some (-1)) = cutS zh none (some (-1)) ∧ cutS zl (some (-1)) none = tx [false] ∧ cutS zh (some (-1)) none = tx [true]) → ∃ s, zl = tx (s ++ [false]) ∧ (h.dropLast ++ [false], s ++ [false]) ∈ F ∧ (h.dropLast ++ [true], s ++ [true]) ∈ F := by
  rintro ⟨_, e1, e2, e3⟩
  obtain ⟨s, rfl, m1⟩ := gt_end g1 e2
  obtain ⟨s', rfl, m2⟩ := gt_end g2 e3
  rw [cut_last, cut_last, List.dropLast_concat, List.dropLast_concat] at e1
  have := tx_inj e1
  subst this
  exact ⟨s, rfl, m1, m2⟩
theorem gt_fun {F : Tb} (an : Anti (hds F)) {x k : W} {z : Str} (g : Gt F x z) (m : (x, k) ∈ F) : z = tx k := by
  rcases g with ⟨k', m', rfl⟩ | ⟨n, _⟩
  · have := hds_fun an m m' (List.prefix_refl _)
    rw [show k' = k from (congrArg Prod.snd this).symm]
  · exact absurd (List.mem_map.mpr ⟨_, m, rfl⟩) n
theorem tests_mg {F : Tb} (an : Anti (hds F)) {h : W} {zl zh : Str} (g1 : Gt F (h.dropLast ++ [false]) zl) (g2 : Gt F (h.dropLast ++ [true]) zh) (m : Mg F h) :
    h ≠ [] ∧ cutS zl none (some (-1)) = cutS zh none (some (-1)) ∧ cutS zl (some (-1)) none = tx [false] ∧ cutS zh (some (-1)) none = tx [true] := by
  obtain ⟨t, s, b, rfl, m0, m1⟩ := m
  rw [List.dropLast_concat] at g1 g2
  have e0 := gt_fun an g1 m0
  have e1 := gt_fun an g2 m1
  subst e0 e1
  refine ⟨by simp, ?_, end_snoc _ _, end_snoc _ _⟩
  rw [cut_last, cut_last, List.dropLast_concat, List.dropLast_concat]
theorem perm_lift {l : List W} : ∀ {F : Tb}, l.Perm (F.map Prod.fst) → ∃ G : Tb, G.map Prod.fst = l ∧ G.Perm F := by
  intro F p
  generalize e : F.map Prod.fst = zs at p
  induction p generalizing F with
  | nil => exact ⟨[], rfl, by rw [List.map_eq_nil_iff.mp e]⟩
  | cons x p ih =>
    cases F with
    | nil => cases e
    | cons a F =>
      rw [List.map_cons] at e
      injection e with e1 e2
      obtain ⟨G, rfl, q⟩ := ih e2
      exact ⟨a :: G, by rw [List.map_cons, e1], q.cons a⟩
  | swap x y l' =>
    match F, e with
    | a :: b :: F, e =>
      rw [List.map_cons, List.map_cons] at e
      injection e with e1 e2
      injection e2 with e2 e3
      exact ⟨b :: a :: F, by rw [List.map_cons, List.map_cons, e1, e2, e3], .swap _ _ _⟩
  | trans p1 p2 ih1 ih2 =>
    obtain ⟨G, rfl, q⟩ := ih2 e
    obtain ⟨G', e', q'⟩ := ih1 rfl
    exact ⟨G', e', q'.trans q⟩
section
variable {P : Program} {w : World} {K : PySem.W.Frag} {mg : Str → Option Value} {base : Heap}
theorem scW' : FnScope NW ["_law_rows_here"] (defScope sLfew) := ⟨rfl, rfl, rfl, by decide +kernel, rfl, by decide +kernel, by decide +kernel⟩
theorem ok_lfew {f : Addr} {fd : FuncData} (F : Fun K "_law_few" "_law_few" sLfew f fd) (T : Txt mg) : FnOk P w K mg base CX0 1 f fd ["_law_rows_here"] (spLfew K) := by
  refine F.ok scW' (fun vs H Q E h => ?_) (fun cdv A outer s H vs Q E hr h => ?_)
  · obtain ⟨a, T, rfl, _⟩ := h
    rfl
  · obtain ⟨a, S, rfl, ⟨ps, ha, hps⟩, xc, lS, zS, k⟩ := h
    have hu1 : (A.deeper (PyProof.Rows.envOfC "_law_few" (defScope sLfew) s.heap.objs.size f cdv)).units + 1 < cLine := by have := hr.un; omega
    --TERM
    refine ⟨_, pss_cons (ps_set (i := 1) scW'.nd rfl (Or.inr rfl) (pe_callTy (call_dictP rfl) (by rfl) T.dict b_dict (pa_cons (pv 0) pa_nil)))
        (pss_cons (ps_set (i := 2) scW'.nd rfl (Or.inl rfl) pe_bl)
        (pss_cons (ps_while PassesOwn.never (pt_val (pv 2)) (pss_cons (ps_set (i := 2) scW'.nd rfl (Or.inl rfl) pe_bl)
        (pss_one (ps_for PassesOwn.never rfl (pi_list (pe_callB cr_sortedS (by rfl) T.sorted b_sorted (pa_cons (pe_callTy (call_listD rfl) (by rfl) T.list b_list (pa_cons (pv 1) pa_nil)) pa_nil))) (pg_name (i := 3) scW'.nd rfl (Or.inl rfl)) (pss_cons (ps_par (i := 4) (j := 5) rfl scW'.nd rfl rfl (by decide) rfl rfl (pa_cons (pe_dget2 hu1 (pv 1) (pe_op op_add_str (pe_slice sl_str (pv 3) po_none (po_some (pe_un un_neg pe_int))) pe_str) pe_str ⟨rfl, rfl, rfl, rfl⟩) (pa_cons (pe_dget2 hu1 (pv 1) (pe_op op_add_str (pe_slice sl_str (pv 3) po_none (po_some (pe_un un_neg pe_int))) pe_str) pe_str ⟨rfl, rfl, rfl, rfl⟩) pa_nil)) rfl)
        (pss_one (ps_if (PW.pt (pw_and (pt_cmpR op_ne (pv 3) pe_str (nomark _)) (pw_and (pt_cmpR op_eq (pe_slice sl_str (pv 4) po_none (po_some (pe_un un_neg pe_int))) (pe_slice sl_str (pv 5) po_none (po_some (pe_un un_neg pe_int))) (nomark _)) (pw_and (pt_cmpR op_eq (pe_slice sl_str (pv 4) (po_some (pe_un un_neg pe_int)) po_none) pe_str (nomark _)) (pw_and1 (pt_cmpR op_eq (pe_slice sl_str (pv 5) (po_some (pe_un un_neg pe_int)) po_none) pe_str (nomark _))))))) (pss_cons (ps_expr (pe_dpop1 (pv 1) (pe_op op_add_str (pe_slice sl_str (pv 3) po_none (po_some (pe_un un_neg pe_int))) pe_str) ⟨rfl, rfl, rfl, rfl⟩))
        (pss_cons (ps_expr (pe_dpop1 (pv 1) (pe_op op_add_str (pe_slice sl_str (pv 3) po_none (po_some (pe_un un_neg pe_int))) pe_str) ⟨rfl, rfl, rfl, rfl⟩))
        (pss_cons (ps_dput hu1 (pv 1) (pe_slice sl_str (pv 3) po_none (po_some (pe_un un_neg pe_int))) (pe_slice sl_str (pv 4) po_none (po_some (pe_un un_neg pe_int))) rfl)
        (pss_cons (ps_set (i := 2) scW'.nd rfl (Or.inl rfl) pe_bl)
        (pss_one ps_break))))) pss_nil)))))))
        (pss_one (ps_ret (pe_lc (own := [("_law_head", 3)]) (g := gName 3) (by rfl) scW'.nd (pi_list (pe_callB cr_sortedS (by rfl) T.sorted b_sorted (pa_cons (pe_callTy (call_listD rfl) (by rfl) T.list b_list (pa_cons (pv 1) pa_nil)) pa_nil))) (blkOk_by (own := [("_law_head", 3)]) (N := NW) (sc := defScope sLfew) (by decide +kernel)) (fun _ _ _ _ _ => pg_name (i := 3) scW'.nd rfl (Or.inl rfl)) (fun _ _ _ _ _ => pts_nil) (fun _ _ _ _ _ => pe_tup (pa_cons (pv 3) (pa_cons (pe_dget hu1 (pv 1) (pv 3) (fun _ _ => rfl)) pa_nil)))))))), ?_⟩
    have big : ∀ {m : Nat}, m ≤ 100000 → m ≤ sizeLine := fun h => Nat.le_trans h (by decide)
    have nS := xc.h.an.nodup
    -- the dict
    refine seq_gen (fun σ H1 => ∃ d : Addr, σ = [some (.ref a), some (.ref d), none, none, none, none] ∧ H d = none ∧ H1 = upd H d (.dK (dkv S))) (fun nx hn => ?_) ?_
    · refine ⟨_, rfl, a, ps, dkv S, rfl, SqL.of ha, paired_dkv hps, fun d hd => ?_⟩
      have e : mergeK [] (dkv S) = dkv S := merge_dkv S [] (by simpa using nS)
      rw [e]
      exact hn _ _ ⟨d, rfl, hd, rfl⟩
    rintro _ _ ⟨d, rfl, hd, rfl⟩
    refine seq_gen (fun σ H1 => σ = [some (.ref a), some (.ref d), some (.bl true), none, none, none] ∧ H1 = upd H d (.dK (dkv S))) (fun nx hn => hn _ _ ⟨rfl, rfl⟩) ?_
    rintro _ _ ⟨rfl, rfl⟩
    refine seq_gen (fun σ H1 => ∃ (F : Tb) (o3 o4 o5 : Option V), σ = [some (.ref a), some (.ref d), some (.bl false), o3, o4, o5] ∧ Same H H1 ∧ H1 d = some (.dK (dkv F)) ∧ Xc F ∧ Eqv S F ∧ Rdc F ∧ F.length ≤ S.length ∧ Sz 1000 F) (fun nx hn => ?_) ?_
    · -- again and again
      refine ⟨fun n σ H1 => ∃ (F : Tb) (bb : Bool) (o3 o4 o5 : Option V), n = F.length + (if bb = true then 1 else 0) ∧ σ = [some (.ref a), some (.ref d), some (.bl bb), o3, o4, o5] ∧ Same H H1 ∧ H1 d = some (.dK (dkv F)) ∧ Xc F ∧ Eqv S F ∧ F.length ≤ S.length ∧ Sz 1000 F ∧ (bb = false → Rdc F),
        ⟨_, S, true, none, none, none, rfl, rfl, Same.new hd, upd_same, xc, Eqv.refl S, Nat.le_refl _, zS, fun z => by cases z⟩, ?_⟩
      rintro n σ H1 ⟨F, bb, o3, o4, o5, rfl, rfl, sm, hF, xF, eF, lF, zF, rF⟩
      refine ⟨_, rfl, _, rfl, ?_⟩
      cases bb with
      | false => exact iteF (hn _ _ ⟨F, o3, o4, o5, rfl, sm, hF, xF, eF, rF rfl, lF, zF⟩)
      | true =>
        refine iteT ⟨fun σ' H' => ∃ (F' : Tb) (bb : Bool) (o3 o4 o5 : Option V), F'.length + (if bb = true then 1 else 0) < F.length + 1 ∧ σ' = [some (.ref a), some (.ref d), some (.bl bb), o3, o4, o5] ∧ Same H H' ∧ H' d = some (.dK (dkv F')) ∧ Xc F' ∧ Eqv S F' ∧ F'.length ≤ S.length ∧ Sz 1000 F' ∧ (bb = false → Rdc F'),
          fun σ' H' ⟨F', bb, o3, o4, o5, ln, e⟩ => ⟨_, ln, F', bb, o3, o4, o5, rfl, e⟩, ?_⟩
        have nF := xF.h.an.nodup
        refine ⟨_, rfl, d, dkv F, rfl, hF, fun l hl => ?_⟩
        rw [keys_dkv]
        have s1 : Same H1 (upd H1 l (.lst (tvs (hds F)))) := Same.new hl
        refine ⟨l, (hds F).map tx, rfl, by rw [← tvs_eq]; exact SqL.of upd_same, by rw [List.length_map]; unfold hds; rw [List.length_map]; omega, fun ys q pm so hq => ?_⟩
        obtain ⟨l', rfl, pl⟩ := perm_tx pm
        rw [← tvs_eq]
        have s2 := s1.trans (Same.new (o := .lst (tvs l')) hq)
        have ndq : d ≠ q := ne_of_none (s1 _ _ hF) hq
        have hl' : l'.length = F.length := by rw [pl.length_eq]; unfold hds; rw [List.length_map]
        refine ⟨q, rfl, ⟨_, SqL.of upd_same⟩, for_list (K := K) (a := q) (xs := tvs l') (fun i σ H2 => ∃ (o3 o4 o5 : Option V), σ = [some (.ref a), some (.ref d), some (.bl false), o3, o4, o5] ∧ Same H H2 ∧ H2 d = some (.dK (dkv F)) ∧ H2 q = some (.lst (tvs l')) ∧ ∀ j h, j < i → l'[j]? = some h → ¬ Mg F h) ?_ ?_ ?_ ?_⟩
        · exact ⟨_, _, _, rfl, sm.trans s2, s2 _ _ hF, upd_same, fun j h hj => by omega⟩
        · rintro i σ H2 _ ⟨_, _, _, _, _, _, h, _⟩
          exact SqL.of h
        · rintro i x σ H2 hx ⟨o3, o4, o5, rfl, sm2, hF2, hq2, nm⟩
          obtain ⟨h, hh, rfl⟩ := tvs_at hx
          have hhF : h ∈ hds F := pl.mem_iff.mp (List.mem_of_getElem? hh)
          obtain ⟨zh0, mh0, eh0⟩ := List.mem_map.mp hhF
          have lh : h.length ≤ 1000 := by rw [← eh0]; exact (zF _ mh0).1
          have lhd : h.dropLast.length ≤ 1000 := by rw [List.length_dropLast]; omega
          dsimp only [gName]
          obtain ⟨zl, el, gl⟩ := gt_ex nF (h.dropLast ++ [false])
          obtain ⟨zh, eh, gh⟩ := gt_ex nF (h.dropLast ++ [true])
          have ll := gt_len zF gl
          have lzh := gt_len zF gh
          have next : ¬ Mg F h → ∃ (o3' o4' o5' : Option V), [some (V.ref a), some (.ref d), some (.bl false), some (tv h), some (.str zl), some (.str zh)] = [some (V.ref a), some (.ref d), some (.bl false), o3', o4', o5'] ∧ Same H H2 ∧ H2 d = some (.dK (dkv F)) ∧ H2 q = some (.lst (tvs l')) ∧ ∀ j h, j < i + 1 → l'[j]? = some h → ¬ Mg F h := fun nn => ⟨_, _, _, rfl, sm2, hF2, hq2, fun j g hj hg => by
            by_cases e : j = i
            · subst e
              rw [hh] at hg
              cases hg
              exact nn
            · exact nm j g (by omega) hg⟩
          refine seq_gen (fun σ H3 => σ = [some (.ref a), some (.ref d), some (.bl false), some (tv h), some (.str zl), some (.str zh)] ∧ H3 = H2) (fun nx hn => ?_) ?_
          · refine ⟨_, rfl, d, rfl, .inl ⟨_, .inl hF2⟩, _, rfl, _, rfl, _, rfl, _, rfl, by rw [tx_len]; exact big (by omega), ?_⟩
            rw [show -(1 : Int) = -1 from rfl, cut_last]
            refine ⟨_, _, rfl, rfl, by rw [tx_len]; exact big (show h.dropLast.length + 1 ≤ 100000 by omega), ?_⟩
            rw [tx_a0]
            refine ⟨_, DGet.k (k := Sum.inr (tx (h.dropLast ++ [false]))) hF2, ?_⟩
            rw [el]
            refine ⟨_, rfl, d, rfl, .inl ⟨_, .inl hF2⟩, _, rfl, _, rfl, _, rfl, _, rfl, by rw [tx_len]; exact big (by omega), ?_⟩
            rw [show -(1 : Int) = -1 from rfl, cut_last]
            refine ⟨_, _, rfl, rfl, by rw [tx_len]; exact big (show h.dropLast.length + 1 ≤ 100000 by omega), ?_⟩
            rw [tx_a1]
            refine ⟨_, DGet.k (k := Sum.inr (tx (h.dropLast ++ [true]))) hF2, ?_⟩
            rw [eh]
            exact ⟨_, _, rfl, hn _ _ ⟨rfl, rfl⟩⟩
          rintro _ _ ⟨rfl, rfl⟩
          -- halves of one row or not
          refine ⟨_, rfl, rfl, _, rfl, ite2 (fun q1 => ?_) fun q1 => iteF (next fun m => ?_)⟩
          case refine_2 =>
            have t1 := (tests_mg xF.h.an gl gh m).1
            refine q1 ?_
            rw [Bool.not_eq_true', decide_eq_false_iff_not]
            exact fun z => t1 (tx_inj ((V.str.inj z).trans tx_nil.symm))
          refine ⟨_, rfl, _, rfl, _, rfl, _, rfl, big (by omega), _, rfl, _, rfl, _, rfl, _, rfl, big (by omega), rfl, _, rfl, ite2 (fun q2 => ?_) fun q2 => iteF (next fun m => ?_)⟩
          case refine_2 => exact q2 (decide_eq_true (congrArg V.str (tests_mg xF.h.an gl gh m).2.1))
          refine ⟨_, rfl, _, rfl, _, rfl, _, rfl, big (by omega), rfl, _, rfl, ite2 (fun q3 => ?_) fun q3 => iteF (next fun m => ?_)⟩
          case refine_2 => exact q3 (decide_eq_true (congrArg V.str ((tests_mg xF.h.an gl gh m).2.2.1.trans tx_0)))
          refine ⟨_, rfl, _, rfl, _, rfl, _, rfl, big (by omega), rfl, _, rfl, ite2 (fun q4 => ?_) fun q4 => next fun m => ?_⟩
          case refine_2 => exact q4 (decide_eq_true (congrArg V.str ((tests_mg xF.h.an gl gh m).2.2.2.trans tx_1)))
          have hne : h ≠ [] := fun e => by
            rw [Bool.not_eq_true', decide_eq_false_iff_not] at q1
            exact q1 (by rw [e]; exact congrArg V.str tx_nil)
          obtain ⟨s', es, m0, m1⟩ := mg_tests nF gl gh ⟨hne, V.str.inj (of_decide_eq_true q2), (V.str.inj (of_decide_eq_true q3)).trans tx_0.symm, (V.str.inj (of_decide_eq_true q4)).trans tx_1.symm⟩
          obtain ⟨G, eG, m1', nG, xG, eqG, lG, sG⟩ := few_step xF m0 m1
          subst es
          -- both out
          refine ⟨_, rfl, d, rfl, .inl ⟨_, .inl hF2⟩, _, rfl, _, rfl, _, rfl, _, rfl, by rw [tx_len]; exact big (by omega), ?_⟩
          rw [show -(1 : Int) = -1 from rfl, cut_last]
          refine ⟨_, _, rfl, rfl, by rw [tx_len]; exact big (show h.dropLast.length + 1 ≤ 100000 by omega), ?_⟩
          rw [tx_a0]
          refine ⟨_, Sum.inr (tx (h.dropLast ++ [false])), _, hF2, rfl, val_mem nF m0, ?_⟩
          rw [drop_dkv]
          have nF1 : (hds (F.filter fun z => decide (z.1 ≠ h.dropLast ++ [false]))).Nodup := (List.nodup_cons.mp (((filter_perm nF m0).map Prod.fst).nodup_iff.mp nF)).2
          refine ⟨_, rfl, d, rfl, .inl ⟨_, .inl upd_same⟩, _, rfl, _, rfl, _, rfl, _, rfl, by rw [tx_len]; exact big (by omega), ?_⟩
          rw [show -(1 : Int) = -1 from rfl, cut_last]
          refine ⟨_, _, rfl, rfl, by rw [tx_len]; exact big (show h.dropLast.length + 1 ≤ 100000 by omega), ?_⟩
          rw [tx_a1]
          refine ⟨_, Sum.inr (tx (h.dropLast ++ [true])), _, upd_same, rfl, val_mem nF1 m1', ?_⟩
          rw [drop_dkv, eG, upd_upd]
          refine ⟨_, rfl, _, rfl, _, rfl, _, rfl, big (by omega), ?_⟩
          rw [show -(1 : Int) = -1 from rfl, cut_last, List.dropLast_concat]
          refine ⟨_, rfl, _, rfl, _, rfl, _, rfl, _, rfl, by rw [tx_len]; exact big (by omega), ?_⟩
          rw [show -(1 : Int) = -1 from rfl, cut_last]
          have lG' : G.length + 2 = F.length := by rw [List.length_append] at lG; simp at lG; omega
          refine ⟨d, _, rfl, .inl ⟨_, Sum.inr (tx h.dropLast), upd_same, rfl, by rw [dkv_len]; exact Nat.lt_of_le_of_lt (show G.length ≤ 1000 by omega) (by decide), rfl⟩, ?_⟩
          have ep : putK (dkv G) (Sum.inr (tx h.dropLast)) (.str (tx s')) = dkv (G ++ [(h.dropLast, s')]) := put_dkv nG
          rw [ep, upd_upd]
          refine ⟨G ++ [(h.dropLast, s')], true, _, _, _, ?_, rfl, fun c o e => ?_, upd_same, xG, eF.trans eqG, ?_, fun z hz => ?_, fun z => by cases z⟩
          · rw [if_pos rfl]; omega
          · rw [upd_ne (ne_of_none e hd)]; exact sm2 c o e
          · omega
          · rcases List.mem_append.mp hz with hz | hz
            · exact zF z (sG z hz)
            · rw [List.mem_singleton.mp hz]
              have := zF _ m0
              simp at this ⊢
              omega
        · rintro σ H2 ⟨o3, o4, o5, rfl, sm2, hF2, hq2, nm⟩
          rw [len_tvs] at nm
          refine ⟨F, false, _, _, _, by simp, rfl, sm2, hF2, xF, eF, lF, zF, fun _ => rdc_of fun h hh => ?_⟩
          obtain ⟨j, hj⟩ := List.getElem?_of_mem (pl.mem_iff.mpr hh)
          exact nm j h (List.getElem?_eq_some_iff.mp hj).1 hj
    -- the rows by their heads
    rintro σ H1 ⟨F, o3, o4, o5, rfl, sm, hF, xF, eF, rF, lF, zF⟩
    have nF := xF.h.an.nodup
    refine ⟨_, rfl, d, dkv F, rfl, hF, fun l hl => ?_⟩
    rw [keys_dkv]
    have s1 : Same H1 (upd H1 l (.lst (tvs (hds F)))) := Same.new hl
    refine ⟨l, (hds F).map tx, rfl, by rw [← tvs_eq]; exact SqL.of upd_same, by rw [List.length_map]; unfold hds; rw [List.length_map]; omega, fun ys q pm so hq => ?_⟩
    obtain ⟨l', rfl, pl⟩ := perm_tx pm
    rw [← tvs_eq]
    have s2 := s1.trans (Same.new (o := .lst (tvs l')) hq)
    have st : l'.Pairwise lt := strict (sortedS_pair so) (pl.nodup_iff.mpr nF)
    obtain ⟨G, eG, pG⟩ := perm_lift (F := F) pl
    subst eG
    have lG : G.length = F.length := pG.length_eq
    refine ⟨q, rfl, ⟨_, SqL.of upd_same⟩, fun D hD => ?_⟩
    have hq2 : (upd (upd H1 l (.lst (tvs (hds F)))) q (.lst (tvs (G.map Prod.fst)))) q = some (.lst (tvs (G.map Prod.fst))) := upd_same
    have hd2 := s2 _ _ hF
    generalize upd (upd H1 l (.lst (tvs (hds F)))) q (.lst (tvs (G.map Prod.fst))) = H2 at s2 hD hq2 hd2 ⊢
    refine lc_list (K := K) (a := q) (xs := tvs (G.map Prod.fst)) (fun i H3 => ∃ qs : List Addr, Same H2 H3 ∧ H3 D = some (.lst (qs.map V.ref)) ∧ PTn H3 qs (G.take i)) ⟨[], Same.new hD, upd_same, .nil⟩ (fun i H3 _ ⟨_, z, _⟩ => SqL.of (z _ _ hq2)) ?_ ?_
    · rintro i x H3 hx ⟨qs, s3, hD3, pq⟩
      obtain ⟨h, hh, rfl⟩ := tvs_at hx
      rw [List.getElem?_map, Option.map_eq_some_iff] at hh
      obtain ⟨z, hz, rfl⟩ := hh
      have mz : (z.1, z.2) ∈ F := pG.mem_iff.mp (List.mem_of_getElem? hz)
      have dg : DGet H3 d (tv z.1) (some (tv z.2)) := by
        have := DGet.k (k := Sum.inr (tx z.1)) (s3 _ _ hd2)
        rw [val_mem nF mz] at this
        exact this
      refine ⟨rfl, _, rfl, _, rfl, _, rfl, d, _, rfl, dg, by show 2 ≤ sizeLine; decide, fun t ht => ?_⟩
      have st3 : Same H3 (upd H3 t (.tup [tv z.1, tv z.2])) := Same.new ht
      have lq := pq.len
      rw [List.length_take] at lq
      refine ⟨_, st3 _ _ hD3, ?_, qs ++ [t], fun c o e => ?_, by rw [upd_same, List.map_append]; rfl, ?_⟩
      · rw [List.length_map]; exact Nat.lt_of_le_of_lt (show qs.length ≤ 1000 by omega) (by decide)
      · rw [upd_ne (ne_of_none e hD)]; exact st3 _ _ (s3 _ _ e)
      · rw [List.take_add_one, hz]
        have kk : KpT (upd H3 t (.tup [tv z.1, tv z.2])) (upd (upd H3 t (.tup [tv z.1, tv z.2])) D (.lst (qs.map V.ref ++ [.ref t]))) := KpT.set (st3 _ _ hD3) (fun _ z => nomatch z) (fun _ _ z => nomatch z)
        exact (PTn.keep ((KpT.of st3).trans kk) pq).app (.cons (kk.t _ _ upd_same) .nil)
    · rintro H3 ⟨qs, s3, hD3, pq⟩
      rw [len_tvs, List.length_map, List.take_length] at pq
      have sH : Same H H3 := (sm.trans s2).trans s3
      refine k D H3 G ((sm.trans s2).free hD) sH ⟨qs, hD3, pq⟩ ⟨xF.perm pG.symm, fun t s' ⟨a1, a2⟩ => rF t s' ⟨pG.mem_iff.mp a1, pG.mem_iff.mp a2⟩, st, eF.trans (eqv_mem fun z => pG.mem_iff.symm)⟩ (by omega) fun z hz => zF z (pG.mem_iff.mp hz)
end
end Hs

/-! part K14swp -/
set_option Elab.async false
set_option linter.all false
set_option maxRecDepth 100000
set_option maxHeartbeats 1000000
namespace Hs
open PySem L2 Hm
abbrev sSwap : Stmt := top 55
abbrev sSin : Stmt := inClass sSwap 0
abbrev sSrows : Stmt := inClass sSwap 1
abbrev sSeq : Stmt := inClass sSwap 11
abbrev sSlen : Stmt := inClass sSwap 12
abbrev sNt : Stmt := top 56
abbrev sKr : Stmt := top 57
abbrev NN : List Str := ["rows", "head", "other"]
abbrev NK : List Str := ["rows", "told"]
/-- an exchange's class -/
structure SwC (K : PySem.W.Frag) (mg : Str → Option Value) (C : Addr) : Prop where
  cl : Cls K C
  nt : NoAttr K C "table"
  mgC : mg "Swap" = some (.ref C)
  ty1 : PySem.W.findIn K (.ref C) "__class__" = some (some (.builtin "object.__class__"))
  ty2 : PySem.W.specialIn K (.builtin "object.__class__") "__get__" = some (some (.builtin "getset_descriptor.__get__"))
  ty3 : PySem.W.takesIn K (.builtin "object.__class__") = some true
  ty4 : PySem.W.mroIn K C (.type "object") = some true
def sfl (t : Addr) : List (Str × V) := putF "table" (.ref t) []
theorem sfl_t (t : Addr) : (sfl t).lookup ("table" : Str) = some (.ref t) := by
  unfold sfl
  rw [lookup_putF, if_pos rfl]
theorem sfl_no (t : Addr) {m : Str} (h : ¬ m = "table") : (sfl t).lookup m = none := by
  unfold sfl
  rw [lookup_putF, if_neg h]
  rfl
/-- an exchange with its fewest rows -/
def SwAt (K : PySem.W.Frag) (C : Addr) (H : Hp) (x : Addr) (F : Tb) : Prop := ∃ dx t, H x = some (.ins C dx (sfl t)) ∧ TN H t F
theorem SwAt.same {K : PySem.W.Frag} {C x : Addr} {H H' : Hp} {F : Tb} (h : SwAt K C H x F) (s : Same H H') : SwAt K C H' x F := let ⟨dx, t, h1, h2⟩ := h; ⟨dx, t, s _ _ h1, h2.same s⟩
def spNt (K : PySem.W.Frag) : Sp := fun vs H Q _ => ∃ (a : Addr) (b : Bool) (T : Tb), vs = [.ref a] ∧ BT K b H a T ∧ Xc T ∧ T.length ≤ 60 ∧ Sz 60 T ∧ ∀ H', Same H H' → Q .non H'
def spKr (K : PySem.W.Frag) : Sp := fun vs H Q _ => ∃ (a : Addr) (b : Bool) (T : Tb), vs = [.ref a] ∧ BT K b H a T ∧ Xc T ∧ T.length ≤ 64 ∧ Sz 10000 T ∧
  ∀ p H' F, H p = none → Same H H' → TN H' p F → Few T F → F.length ≤ T.length → Sz 10000 F → Q (.ref p) H'
def spSin (K : PySem.W.Frag) (C : Addr) : Sp := fun vs H Q _ => ∃ (x dx a : Addr) (b : Bool) (T : Tb), vs = [.ref x, .ref a] ∧ H x = some (.ins C dx []) ∧ BT K b H a T ∧ Xc T ∧ T.length ≤ 60 ∧ Sz 60 T ∧
  ∀ H' F, (∀ c o, H c = some o → c ≠ x → H' c = some o) → SwAt K C H' x F → Few T F → F.length ≤ T.length → Sz 10000 F → Q .non H'
def spSrows (K : PySem.W.Frag) (C : Addr) : Sp := fun vs H Q _ => ∃ (x : Addr) (F : Tb), vs = [.ref x] ∧ SwAt K C H x F ∧ ∀ p H', H p = none → Same H H' → NT H' p F → Q (.ref p) H'
def spSlen (K : PySem.W.Frag) (C : Addr) : Sp := fun vs H Q _ => ∃ (x : Addr) (F : Tb), vs = [.ref x] ∧ SwAt K C H x F ∧ Q (.int (F.length : Int)) H
section
variable {P : Program} {w : World} {K : PySem.W.Frag} {mg : Str → Option Value} {base : Heap}
theorem scNt : FnScope NN ["rows"] (defScope sNt) := ⟨rfl, rfl, rfl, by decide +kernel, rfl, by decide +kernel, by decide +kernel⟩
theorem ok_nt {f fO fH fN fF fL fG cB : Addr} {fd fdO fdH fdN fdF fdL fdG : FuncData} (F : Fun K "need_table" "need_table" sNt f fd) (dO : Def K mg "only_signs" sOnly ["text"] fO fdO) (dH : Def K mg "is_head" sIsH ["text"] fH fdH) (dN : Def K mg "need_head" sNeed ["text"] fN fdN)
    (dF : Def K mg "fault" sFau ["heads"] fF fdF) (dL : Def K mg "left_out" sLef ["heads"] fL fdL) (dG : Def K mg "following" sFol ["head"] fG fdG) (T : Txt mg) (L : ∃ t, mg "LONGEST" = some (.int 60 t)) (R : Ref K mg "BadHead" cB) : FnOk P w K mg base CX0 5 f fd ["rows"] (spNt K) := by
  have GN : FnOk P w K mg base (CXE P w) 3 fN fdN ["text"] (spNeedX cB) := ok_needX dN.fn dO dH T L R
  have GF : FnOk P w K mg base (CXE P w) 4 fF fdF ["heads"] (spFau cB) := ok_fau dF.fn dO dH dN dL dG T L R
  refine F.ok scNt (fun vs H Q E h => ?_) (fun cdv A outer s H vs Q E hr h => ?_)
  · obtain ⟨a, b, T, rfl, _⟩ := h
    rfl
  · obtain ⟨a, b, S, rfl, bt, xc, lS, zS, k⟩ := h
    obtain ⟨ps, hq, hps⟩ := id bt
    have hr3 := hr.mono (j := 3) (by decide)
    refine ⟨_, pss_cons (ps_for PassesOwn.never rfl (pi_or (pi_list (pv 0)) (pi_tup (pv 0))) (pg_tup rfl (pgs_cons (pg_name (i := 1) scNt.nd rfl (Or.inl rfl)) (pgs_cons (pg_name (i := 2) scNt.nd rfl (Or.inl rfl)) pgs_nil))) (pss_cons (ps_expr (pe_call GN hr3 rfl dN.at_ dN.fn.kp dN.bi .nil passX (pa_cons (pv 1) pa_nil)))
        (pss_one (ps_expr (pe_call GN hr3 rfl dN.at_ dN.fn.kp dN.bi .nil passX (pa_cons (pv 2) pa_nil))))))
        (pss_one (ps_if (PW.pt (pw_or (pt_cmp (pc_notN (pe_call GF hr rfl dF.at_ dF.fn.kp dF.bi .nil passX (pa_cons (pe_lc (own := [("head", 1), ("other", 2)]) (g := gTup K 2 (gCons (gName 1) (gCons (gName 2) gNil))) (by rfl) scNt.nd (pi_or (pi_list (pv 0)) (pi_tup (pv 0))) (blkOk_by (own := [("head", 1), ("other", 2)]) (N := NN) (sc := defScope sNt) (by decide +kernel)) (fun _ _ _ _ _ => pg_tup rfl (pgs_cons (pg_name (i := 1) scNt.nd rfl (Or.inl rfl)) (pgs_cons (pg_name (i := 2) scNt.nd rfl (Or.inl rfl)) pgs_nil))) (fun _ _ _ _ _ => pts_nil) (fun _ _ _ _ _ => pv 1)) pa_nil)))) (pw_or1 (pt_cmp (pc_notN (pe_call GF hr rfl dF.at_ dF.fn.kp dF.bi .nil passX (pa_cons (pe_lc (own := [("head", 1), ("other", 2)]) (g := gTup K 2 (gCons (gName 1) (gCons (gName 2) gNil))) (by rfl) scNt.nd (pi_or (pi_list (pv 0)) (pi_tup (pv 0))) (blkOk_by (own := [("head", 1), ("other", 2)]) (N := NN) (sc := defScope sNt) (by decide +kernel)) (fun _ _ _ _ _ => pg_tup rfl (pgs_cons (pg_name (i := 1) scNt.nd rfl (Or.inl rfl)) (pgs_cons (pg_name (i := 2) scNt.nd rfl (Or.inl rfl)) pgs_nil))) (fun _ _ _ _ _ => pts_nil) (fun _ _ _ _ _ => pv 2)) pa_nil))))))) (pss_one ps_never) pss_nil)), ?_⟩
    have big : ∀ {m : Nat}, m ≤ 100000 → m ≤ sizeLine := fun h => Nat.le_trans h (by decide)
    have lps := hps.len
    refine seq_gen (fun σ H1 => ∃ o1 o2, σ = [some (.ref a), o1, o2] ∧ H1 = H) (fun nx hn => ?_) ?_
    · refine for_or (K := K) (b := b) (a := a) (xs := ps.map V.ref) (fun i σ H1 => ∃ o1 o2, σ = [some (.ref a), o1, o2] ∧ H1 = H) rfl hq ⟨none, none, rfl, rfl⟩ (fun i σ H1 _ ⟨_, _, _, e⟩ => by rw [e]; exact hq) ?_ (fun σ H1 ⟨o1, o2, e1, e2⟩ => hn _ _ ⟨o1, o2, e1, e2⟩)
      rintro i x σ H1 hx ⟨o1, o2, rfl, rfl⟩
      rw [List.getElem?_map, Option.map_eq_some_iff] at hx
      obtain ⟨r, hr', rfl⟩ := hx
      obtain ⟨z, hz, sz⟩ := hps.at i hr'
      have zz := zS z (List.mem_of_getElem? hz)
      refine ⟨r, _, rfl, sz, rfl, _, _, rfl, _, _, rfl, rfl, ?_⟩
      refine ⟨_, rfl, tx z.1, rfl, by rw [tx_len]; exact big (by omega), fun _ => ?_, fun e => by rw [isH_tx zz.1] at e; cases e⟩
      exact ⟨_, rfl, tx z.2, rfl, by rw [tx_len]; exact big (by omega), fun _ => ⟨_, _, rfl, rfl⟩, fun e => by rw [isH_tx zz.2] at e; cases e⟩
    rintro _ H0 ⟨o1, o2, rfl, e0⟩
    rw [e0]
    clear e0 H0
    -- both are cuts
    have fau : ∀ (g : W × W → W) (D : Addr) (H2 : Hp) (Q : VK), H2 D = some (.lst (tvs (S.map g))) → (∀ z ∈ S, (g z).length ≤ 60) → Cut (S.map g) → (∀ H3, Same H2 H3 → Q .non H3) → spFau cB [.ref D] H2 Q E0 := fun g D H2 Q hD hz ct kk => by
      refine ⟨D, (S.map g).map tx, rfl, by rw [← tvs_eq]; exact hD, by rw [List.length_map, List.length_map]; exact lS, fun x hx => ?_, fun l e hl v H3 s3 fo => ?_, fun ⟨x, hx, e⟩ => ?_⟩
      · obtain ⟨y, hy, rfl⟩ := List.mem_map.mp hx
        obtain ⟨z, hz', rfl⟩ := List.mem_map.mp hy
        rw [tx_len]
        exact Nat.le_trans (hz z hz') (by decide)
      · have el : S.map g = l := txs_inj e
        subst el
        have vn : v = .non := by
          rcases fo with ⟨e, _⟩ | ⟨p, i, j, x, y, _, _, hij, hx, hy, na⟩ | ⟨p, m, _, _, ap, _⟩
          · exact e
          · obtain ⟨i1, e1⟩ := List.getElem?_eq_some_iff.mp hx
            obtain ⟨i2, e2⟩ := List.getElem?_eq_some_iff.mp hy
            have := List.pairwise_iff_getElem.mp ct.an i j i1 i2 hij
            rw [e1, e2] at this
            exact absurd this na
          · exact absurd ct.de (not_den ap)
        rw [vn]
        exact kk H3 s3
      · obtain ⟨y, hy, rfl⟩ := List.mem_map.mp hx
        obtain ⟨z, hz', rfl⟩ := List.mem_map.mp hy
        rw [isH_tx (hz z hz')] at e
        cases e
    -- a column
    have col : ∀ (g : W × W → W) (te : TE) (H1 : Hp) (Q : VK) (o1 o2 : Option V), Same H H1 → (∀ z ∈ S, ∀ (H2 : Hp) (R : VK), R (tv (g z)) H2 → te [some (.ref a), some (tv z.1), some (tv z.2)] H2 R) → (∀ D H2, Same H1 H2 → H2 D = some (.lst (tvs (S.map g))) → Q (.ref D) H2) →
        tLc (iOr (iList K (tVar 0)) (iTup K (tVar 0))) (gTup K 2 (gCons (gName 1) (gCons (gName 2) gNil))) tYes te [1, 2] [some (.ref a), o1, o2] H1 Q := fun g te H1 Q o1 o2 s1 ht kk => by
      refine lc_or (K := K) (b := b) (a := a) (xs := ps.map V.ref) rfl (hq.same s1) (fun D i H2 => Same H1 H2 ∧ H2 D = some (.lst (tvs ((S.take i).map g)))) (fun D hD => ⟨Same.new hD, upd_same⟩) (fun D i H2 hD _ z => hq.same (s1.trans z.1)) ?_ (fun D H2 hD z => kk D H2 z.1 ?_)
      · rintro D i x H2 hD hx ⟨s2, hD2⟩
        rw [List.getElem?_map, Option.map_eq_some_iff] at hx
        obtain ⟨r, hr', rfl⟩ := hx
        obtain ⟨z, hz, sz⟩ := (PTs.keep (.of (s1.trans s2)) hps).at i hr'
        have hi := (List.getElem?_eq_some_iff.mp hz).1
        refine ⟨r, _, rfl, sz, rfl, _, _, rfl, _, _, rfl, rfl, rfl, ht z (List.mem_of_getElem? hz) _ _ ⟨_, hD2, ?_, fun c o e => ?_, ?_⟩⟩
        · rw [len_tvs, List.length_map, List.length_take]; exact Nat.lt_of_le_of_lt (Nat.min_le_left _ _) (small1000 (by omega))
        · rw [upd_ne (ne_of_none e hD)]; exact s2 _ _ e
        · rw [upd_same, List.take_add_one, hz]
          unfold tvs
          rw [List.map_append, List.map_append]
          rfl
      · have := z.2
        rw [List.length_map, lps, List.take_length] at this
        exact this
    refine or_of (notn_lc ?_)
    refine col Prod.fst (tVar 1) H _ o1 o2 (Same.refl _) (fun z hz H2 R r => ⟨_, rfl, r⟩) fun D H2 s2 hD => ?_
    refine fau Prod.fst D H2 _ hD (fun z hz => (zS z hz).1) xc.h fun H3 s3 => ⟨_, rfl, iteF ?_⟩
    refine notn_lc ?_
    refine col Prod.snd (tVar 2) H3 _ o1 o2 (s2.trans s3) (fun z hz H2 R r => ⟨_, rfl, r⟩) fun D' H4 s4 hD' => ?_
    refine fau Prod.snd D' H4 _ hD' (fun z hz => (zS z hz).2) xc.o fun H5 s5 => ⟨_, rfl, iteF ?_⟩
    exact k H5 ((s2.trans s3).trans (s4.trans s5))
theorem scKr : FnScope NK ["rows"] (defScope sKr) := ⟨rfl, rfl, rfl, by decide +kernel, rfl, by decide +kernel, by decide +kernel⟩
theorem ok_kr {f fR : Addr} {fd fdR : FuncData} (F : Fun K "kept_rows" "kept_rows" sKr f fd) (dR : Def K mg "fewest_rows" sFr ["rows"] fR fdR) (T : Txt mg) (MR : ∃ t, mg "MOST_ROWS" = some (.int 64 t)) : FnOk P w K mg base CX0 2 f fd ["rows"] (spKr K) := by
  have GR : FnOk P w K mg base CX0 1 fR fdR ["rows"] (spFr K) := ok_fr dR.fn T
  obtain ⟨tk, MR⟩ := MR
  refine F.ok scKr (fun vs H Q E h => ?_) (fun cdv A outer s H vs Q E hr h => ?_)
  · obtain ⟨a, b, T, rfl, _⟩ := h
    rfl
  · obtain ⟨a, b, S, rfl, bt, xc, lS, zS, k⟩ := h
    have hr1 := hr.mono (j := 1) (by decide)
    refine ⟨_, pss_cons (ps_set (i := 1) scKr.nd rfl (Or.inl rfl) (pe_call GR hr1 rfl dR.at_ dR.fn.kp dR.bi .nil pass0 (pa_cons (pv 0) pa_nil)))
        (pss_cons (ps_if (pt_cmpR op_gt (pe_callB call_len_seq (by rfl) T.len PySem.boot_len (pa_cons (pv 1) pa_nil)) (pe_glob (v := .int 64) (by rfl) MR ⟨_, rfl⟩) (nomark _)) (pss_one ps_never) pss_nil)
        (pss_one (ps_ret (pe_callTy call_tuple_of (by rfl) T.tuple b_tuple (pa_cons (pv 1) pa_nil))))), ?_⟩
    refine ⟨_, rfl, a, b, S, rfl, bt, xc, by omega, zS, fun p H1 F hp s1 lt fw lf zf => ?_⟩
    obtain ⟨qs, hp1, pq⟩ := id lt
    have lq := pq.len
    refine ⟨_, rfl, p, _, rfl, .inl (SqL.of hp1), _, _, rfl, rfl, _, rfl, ?_⟩
    rw [List.length_map, lq, decide_eq_false (show ¬ (64 : Int) < (F.length : Int) by omega)]
    refine iteF ⟨_, rfl, p, _, rfl, .inl ⟨SqL.of hp1, fun t ht => ?_⟩⟩
    have s2 : Same H1 (upd H1 t (.tup (qs.map V.ref))) := Same.new ht
    exact k t _ F (s1.free ht) (s1.trans s2) ⟨qs, upd_same, PTn.keep (.of s2) pq⟩ fw lf zf
theorem scSin : FnScope ["self", "rows"] ["self", "rows"] (defScope sSin) := ⟨rfl, rfl, rfl, by decide +kernel, rfl, by decide +kernel, by decide +kernel⟩
theorem ok_sin {f fT fK C : Addr} {dV : Value} {fd fdT fdK : FuncData} (F : FunD K "__init__" "Swap.__init__" sSin dV f fd) (dT : Def K mg "need_table" sNt ["rows"] fT fdT) (GT : FnOk P w K mg base CX0 5 fT fdT ["rows"] (spNt K)) (dK : Def K mg "kept_rows" sKr ["rows"] fK fdK) (GK : FnOk P w K mg base CX0 2 fK fdK ["rows"] (spKr K)) (SC : SwC K mg C) :
    FnOk P w K mg base CX0 6 f fd ["self", "rows"] (spSin K C) := by
  refine F.ok scSin (fun vs H Q E h => ?_) (fun cdv A outer s H vs Q E hr h => ?_)
  · obtain ⟨x, dx, a, b, T, rfl, _⟩ := h
    rfl
  · obtain ⟨x, dx, a, b, S, rfl, hx, bt, xc, lS, zS, k⟩ := h
    have hr2 := hr.mono (j := 2) (by decide)
    refine ⟨_, pss_cons (ps_expr (pe_call GT hr rfl dT.at_ dT.fn.kp dT.bi .nil pass0 (pa_cons (pv 1) pa_nil)))
      (pss_one (ps_fld (pv 0) (pe_call GK hr2 rfl dK.at_ dK.fn.kp dK.bi .nil pass0 (pa_cons (pv 1) pa_nil)) rfl)), ?_⟩
    refine ⟨_, rfl, a, b, S, rfl, bt, xc, lS, zS, fun H1 s1 => ?_⟩
    refine ⟨_, rfl, a, b, S, rfl, bt.same s1, xc, by omega, fun z hz => ⟨Nat.le_trans (zS z hz).1 (by decide), Nat.le_trans (zS z hz).2 (by decide)⟩, fun p H2 F hp s2 tt fw lf zf => ?_⟩
    have hx2 := s2 _ _ (s1 _ _ hx)
    refine ⟨_, rfl, x, C, dx, _, rfl, hx2, SC.cl, SC.nt, by show 0 < 1000; decide, ?_⟩
    have kp : KpT H2 (upd H2 x (.ins C dx (sfl p))) := KpT.set hx2 (fun _ z => nomatch z) (fun _ _ z => nomatch z)
    exact k _ F (fun c o e nc => by rw [upd_ne nc]; exact s2 _ _ (s1 _ _ e)) ⟨dx, p, upd_same, tt.kp kp⟩ fw lf zf
theorem scSrows : FnScope ["self"] ["self"] (defScope sSrows) := ⟨rfl, rfl, rfl, by decide +kernel, rfl, by decide +kernel, by decide +kernel⟩
theorem ok_srows {f C : Addr} {fd : FuncData} (F : Fun K "rows" "Swap.rows" sSrows f fd) (T : Txt mg) (SC : SwC K mg C) : FnOk P w K mg base CX0 1 f fd ["self"] (spSrows K C) := by
  refine F.ok scSrows (fun vs H Q E h => ?_) (fun cdv A outer s H vs Q E hr h => ?_)
  · obtain ⟨x, F, rfl, _⟩ := h
    rfl
  · obtain ⟨x, F, rfl, ⟨dx, t, hx, ps, ht, hps⟩, k⟩ := h
    refine ⟨_, pss_one (ps_ret (pe_callTy call_list_of (by rfl) T.list b_list (pa_cons (pe_fld (pv 0) rfl) pa_nil))), ?_⟩
    refine ⟨_, rfl, x, C, dx, _, _, rfl, hx, SC.cl, SC.nt, sfl_t t, t, _, rfl, .inr (SqT.of ht), fun l hl => ?_⟩
    exact k l _ hl (Same.new hl) ⟨ps, upd_same, PTn.keep (.of (Same.new hl)) hps⟩
theorem scSlen : FnScope ["self"] ["self"] (defScope sSlen) := ⟨rfl, rfl, rfl, by decide +kernel, rfl, by decide +kernel, by decide +kernel⟩
theorem ok_slen {f C : Addr} {fd : FuncData} (F : Fun K "__len__" "Swap.__len__" sSlen f fd) (T : Txt mg) (SC : SwC K mg C) : FnOk P w K mg base CX0 1 f fd ["self"] (spSlen K C) := by
  refine F.ok scSlen (fun vs H Q E h => ?_) (fun cdv A outer s H vs Q E hr h => ?_)
  · obtain ⟨x, F, rfl, _⟩ := h
    rfl
  · obtain ⟨x, F, rfl, ⟨dx, t, hx, ps, ht, hps⟩, k⟩ := h
    refine ⟨_, pss_one (ps_ret (pe_callB call_len_seq (by rfl) T.len PySem.boot_len (pa_cons (pe_fld (pv 0) rfl) pa_nil))), ?_⟩
    refine ⟨_, rfl, x, C, dx, _, _, rfl, hx, SC.cl, SC.nt, sfl_t t, t, _, rfl, .inr (SqT.of ht), ?_⟩
    rw [List.length_map, hps.len]
    exact k
end
end Hs

/-! part K14swt -/
set_option Elab.async false
set_option linter.all false
set_option maxRecDepth 100000
set_option maxHeartbeats 1000000
namespace Hs
open PySem L2 Hm
def spSeq (K : PySem.W.Frag) (C : Addr) : Sp := fun vs H Q _ => ∃ (x : Addr) (F : Tb), SwAt K C H x F ∧ ((∃ (y : Addr) (G : Tb), vs = [.ref x, .ref y] ∧ SwAt K C H y G ∧ Q (.bl (decide (F = G))) H) ∨ (∃ (l : Addr) (xs : List V), vs = [.ref x, .ref l] ∧ H l = some (.lst xs) ∧ Q (.bl false) H) ∨ (∃ i : Int, vs = [.ref x, .int i] ∧ Q (.bl false) H))
section
variable {P : Program} {w : World} {K : PySem.W.Frag} {mg : Str → Option Value} {base : Heap}
theorem scSeq : FnScope ["self", "other"] ["self", "other"] (defScope sSeq) := ⟨rfl, rfl, rfl, by decide +kernel, rfl, by decide +kernel, by decide +kernel⟩
theorem ok_seq {f C : Addr} {fd : FuncData} (F : Fun K "__eq__" "Swap.__eq__" sSeq f fd) (T : Txt mg) (SC : SwC K mg C) (kl : PySem.W.kitOne K (.type "list") (.ref C) = some false) (ki : PySem.W.kitOne K (.type "int") (.ref C) = some false) : FnOk P w K mg base CX0 1 f fd ["self", "other"] (spSeq K C) := by
  refine F.ok scSeq (fun vs H Q E h => ?_) (fun cdv A outer s H vs Q E hr h => ?_)
  · obtain ⟨x, F, _, ⟨y, G, rfl, _⟩ | ⟨l, xs, rfl, _⟩ | ⟨i, rfl, _⟩⟩ := h <;> rfl
  · obtain ⟨x, F, ⟨dx, t, hx, tt⟩, c⟩ := h
    rcases c with ⟨y, G, rfl, ⟨dy, t', hy, tt'⟩, k⟩ | ⟨l, xs, rfl, hl, k⟩ | ⟨i, rfl, k⟩
    · refine ⟨_, pss_one (ps_ret (pe_and (pe_callB call_isinst (by rfl) T.isinstance b_isi (pa_cons (pv 1) (pa_cons (pe_glob (v := .ref C) (by rfl) SC.mgC rfl) pa_nil)))
        (pe_one (pe_cmpR (op_eqD hr.units) (pe_fld (pv 0) rfl) (pe_fld (pv 1) rfl) (nomark _))))), ?_⟩
      refine ⟨_, rfl, _, _, .ref C, true, rfl, .ins hy SC.cl SC.ty1 SC.ty2 SC.ty3 SC.ty4, (fun z => nomatch z), ?_, true, rfl, iteT ?_⟩
      · show PySem.W.kitOne K (.ref C) (.ref C) = some true
        unfold PySem.W.kitOne
        rw [if_pos (by simp)]
      refine ⟨_, rfl, x, C, dx, _, _, rfl, hx, SC.cl, SC.nt, sfl_t t, _, rfl, y, C, dy, _, _, rfl, hy, SC.cl, SC.nt, sfl_t t', _, _, tt.t.dp, tt'.t.dp, shaped_tT F, shaped_tT G, ?_⟩
      have e : PyData.eqv (.tuple (dT F)) (.tuple (dT G)) = decide (F = G) := eqv_dT F G
      rw [e]
      exact k
    · refine ⟨_, pss_one (ps_ret (pe_and (pe_callB call_isinst (by rfl) T.isinstance b_isi (pa_cons (pv 1) (pa_cons (pe_glob (v := .ref C) (by rfl) SC.mgC rfl) pa_nil)))
        (pe_one (pe_cmpR (op_eqD hr.units) (pe_fld (pv 0) rfl) (pe_fld (pv 1) rfl) (nomark _))))), ?_⟩
      exact ⟨_, rfl, _, _, .type "list", false, rfl, .lst hl, (fun z => nomatch z), kl, false, rfl, iteF k⟩
    · refine ⟨_, pss_one (ps_ret (pe_and (pe_callB call_isinst (by rfl) T.isinstance b_isi (pa_cons (pv 1) (pa_cons (pe_glob (v := .ref C) (by rfl) SC.mgC rfl) pa_nil)))
        (pe_one (pe_cmpR (op_eqD hr.units) (pe_fld (pv 0) rfl) (pe_fld (pv 1) rfl) (nomark _))))), ?_⟩
      exact ⟨_, rfl, _, _, .type "int", false, rfl, .int i, (fun z => nomatch z), ki, false, rfl, iteF k⟩
end
end Hs

/-! part K14lz -/
set_option Elab.async false
set_option linter.all false
set_option maxRecDepth 100000
set_option maxHeartbeats 1000000
namespace Hs
open PySem L2 Hm
/-- a comprehension over zip of two lists -/
theorem lc_zip {K : PySem.W.Frag} {a b : Addr} {xs ys : List V} {g : TG} {tt : L2.TT} {te : TE} {vs : List Nat} {σ : St} {H1 : Hp} {D : Addr} {Qd : Hp → Prop} (Pv : Nat → Hp → Prop) (h0 : Pv 0 (upd H1 D (.lst []))) (hl : ∀ i H, Pv i H → SqL K H a xs ∧ SqL K H b ys)
    (hs : ∀ i x y H T, xs[i]? = some x → ys[i]? = some y → H T = none → Pv i H → g (.ref T) (wipe σ vs) (upd H T (.tup [x, y])) fun σ2 H2 => wipe σ2 vs = wipe σ vs ∧ tt σ2 H2 fun b H3 =>
      if b = true then te σ2 H3 fun y H4 => ∃ acc, H4 D = some (.lst acc) ∧ acc.length < sizeLine ∧ Pv (i + 1) (upd H4 D (.lst (acc ++ [y]))) else Pv (i + 1) H3) (hd : ∀ H, Pv (min xs.length ys.length) H → Qd H) :
    ∃ W : Nat → Nat → Hp → Prop, (∃ m, W 0 m (upd H1 D (.lst []))) ∧ ∀ i m H, W i m H →
      ((Itz K a b).stop i H ∧ Qd H) ∨ ((Itz K a b).go i H ∧ ∃ Nx : Hp → Prop, (∀ H', Nx H' → ∃ m', m' < m ∧ W (i + 1) m' H') ∧ ∀ x H', (Itz K a b).yld i H x H' → g x (wipe σ vs) H' fun σ2 H2 => wipe σ2 vs = wipe σ vs ∧ tt σ2 H2 fun b H3 =>
        if b = true then te σ2 H3 fun y H4 => ∃ acc, H4 D = some (.lst acc) ∧ acc.length < sizeLine ∧ Nx (upd H4 D (.lst (acc ++ [y]))) else Nx H3) := by
  refine ⟨fun i m H => m = min xs.length ys.length - i ∧ i ≤ min xs.length ys.length ∧ Pv i H, ⟨_, rfl, Nat.zero_le _, h0⟩, ?_⟩
  rintro i m H ⟨rfl, hi, p⟩
  obtain ⟨q1, q2⟩ := hl i H p
  by_cases hlt : i < min xs.length ys.length
  · have h1 : i < xs.length := by omega
    have h2 : i < ys.length := by omega
    refine .inr ⟨⟨xs, ys, xs[i], ys[i], q1, q2, by simp [h1], by simp [h2]⟩, Pv (i + 1), fun H' p' => ⟨_, by omega, rfl, hlt, p'⟩, fun x H' y => ?_⟩
    obtain ⟨T, x', y', rfl, hT, rfl, hx, hy⟩ := y
    exact hs i x' y' H T (hx xs q1) (hy ys q2) hT p
  · have e : i = min xs.length ys.length := by omega
    rw [e] at p ⊢
    exact .inl ⟨⟨xs, ys, (hl _ _ p).1, (hl _ _ p).2, by omega⟩, hd H p⟩
end Hs

/-! part K14lrw -/
set_option Elab.async false
set_option linter.all false
set_option maxRecDepth 100000
set_option maxHeartbeats 1000000
namespace Hs
open PySem L2 Hm
abbrev sLrows : Stmt := top 70
/-! ### tables beside the box -/
theorem But.kt {H H' : Hp} {b la : Addr} (k : But b H H') (B : Box H b la) : KpT H H' := by
  obtain ⟨ns, i, z, sd, c, h1, h2, h3⟩ := B.ex
  exact ⟨fun c u e => k c _ (ne_of e h2 (by intro z; cases z)) e, fun c o u e => k c _ (ne_of e h2 (by intro z; cases z)) e⟩
theorem Box.refs {H : Hp} {b la p : Addr} {ps : List Addr} (B : Box H b la) (h : H p = some (.lst (ps.map V.ref))) : p ≠ b := by
  obtain ⟨ns, i, z, sd, c, h1, h2, h3⟩ := B.ex
  refine ne_of h h2 fun e => ?_
  have e := HO.lst.inj e
  match ps, e with
  | [], e => cases e
  | [_], e => cases e
  | _ :: _ :: _, e => exact nomatch (List.cons.inj (List.cons.inj e).2).1
theorem NT.but {H H' : Hp} {a b la : Addr} {T : Tb} (h : NT H a T) (k : But b H H') (B : Box H b la) : NT H' a T := let ⟨ps, h1, h2⟩ := h; ⟨ps, k _ _ (B.refs h1) h1, PTn.keep (k.kt B) h2⟩
theorem cutV_drop {α : Type} (f : α → V) (l : List α) (j : Nat) (hj : j ≤ l.length) : cutV (l.map f) (some (j : Int)) none = (l.drop j).map f := by
  rw [cutV_map, HT.sIx_nat, HT.sIx_none, Nat.min_eq_left hj, List.take_of_length_le (by rw [List.length_drop]; omega)]
theorem cutV_take {α : Type} (f : α → V) (l : List α) (j : Nat) (hj : j ≤ l.length) : cutV (l.map f) none (some (j : Int)) = (l.take j).map f := by
  rw [cutV_map, HT.sIx_nat, HT.sIx_none, Nat.min_eq_left hj, List.drop_zero, Nat.sub_zero]
def spLrows : Sp := fun vs H Q _ => ∃ (b la : Addr) (m : Nat), vs = [.ref b, .int (m : Int)] ∧ Box H b la ∧ 1 ≤ m ∧ m ≤ 40 ∧ ∀ p H' T, H p = none → But b H H' → Box H' b la → NT H' p T → Xc T → 1 ≤ T.length → T.length ≤ m → Sz m T → Q (.ref p) H'
theorem hds_zip {l m : List W} (e : l.length = m.length) : hds (l.zip m) = l := by unfold hds; exact List.map_fst_zip (by omega)
theorem ots_zip {l m : List W} (e : l.length = m.length) : ots (l.zip m) = m := by unfold ots; exact List.map_snd_zip (by omega)
section
variable {P : Program} {w : World} {K : PySem.W.Frag} {mg : Str → Option Value} {base : Heap}
abbrev NR : List Str := ["_law_box", "_law_most", "_law_many", "_law_others", "_law_way", "_law_turn", "_law_head", "_law_other"]
theorem scR : FnScope NR ["_law_box", "_law_most"] (defScope sLrows) := ⟨rfl, rfl, rfl, by decide +kernel, rfl, by decide +kernel, by decide +kernel⟩

theorem ok_lrows {f fD fC fM : Addr} {fd fdD fdC fdM : FuncData} (F : Fun K "_law_rows" "_law_rows" sLrows f fd) (dD : Def K mg "_law_draw" sDraw ["_law_box", "_law_many"] fD fdD) (dC : Def K mg "_law_cut" sCut ["_law_box", "_law_many"] fC fdC) (dM : Def K mg "_law_mixed" sMix ["_law_box", "_law_row"] fM fdM) (T : Txt mg) :
    FnOk P w K mg base CX0 3 f fd ["_law_box", "_law_most"] spLrows := by
  have GD : FnOk P w K mg base CX0 1 fD fdD ["_law_box", "_law_many"] spDraw := ok_draw dD.fn T
  have GC : FnOk P w K mg base CX0 2 fC fdC ["_law_box", "_law_many"] spCut := ok_cut dC.fn dD.fn dD.bi dD.at_ T
  have GM : FnOk P w K mg base CX0 2 fM fdM ["_law_box", "_law_row"] (spMix K) := ok_mix dM.fn dD.fn dD.bi dD.at_ T
  refine F.ok scR (fun vs H Q E h => ?_) (fun cdv A outer s H vs Q E hr h => ?_)
  · obtain ⟨b, la, m, rfl, _⟩ := h
    rfl
  · obtain ⟨b, la, m, rfl, B, m1, m2, k⟩ := h
    have hr1 : Room 1 _ := hr.mono (by decide)
    refine ⟨_, (pss_cons (ps_set (i := 2) scR.nd rfl (Or.inl rfl) (pe_op op_add pe_int (pe_call GD hr1 rfl dD.at_ dD.fn.kp dD.bi .nil pass0 (pa_cons (pv 0) (pa_cons (pv 1) pa_nil)))))
        (pss_cons (ps_set (i := 3) scR.nd rfl (Or.inl rfl) (pe_call GC hr rfl dC.at_ dC.fn.kp dC.bi .nil pass0 (pa_cons (pv 0) (pa_cons (pv 2) pa_nil))))
        (pss_cons (ps_set (i := 4) scR.nd rfl (Or.inl rfl) (pe_call GD hr1 rfl dD.at_ dD.fn.kp dD.bi .nil pass0 (pa_cons (pv 0) (pa_cons pe_int pa_nil))))
        (pss_cons (ps_if (pt_cmpR op_eq (pv 4) pe_int (nomark _)) (pss_cons (ps_set (i := 5) scR.nd rfl (Or.inl rfl) (pe_call GD hr1 rfl dD.at_ dD.fn.kp dD.bi .nil pass0 (pa_cons (pv 0) (pa_cons (pv 2) pa_nil))))
        (pss_one (ps_set (i := 3) scR.nd rfl (Or.inl rfl) (pe_op op_cat (pe_slice sl_list (pv 3) (po_some (pv 5)) po_none) (pe_slice sl_list (pv 3) po_none (po_some (pv 5))))))) (pss_one (ps_if (pt_cmpR op_gt (pv 4) pe_int (nomark _)) (pss_one (ps_set (i := 3) scR.nd rfl (Or.inl rfl) (pe_call GM hr rfl dM.at_ dM.fn.kp dM.bi .nil pass0 (pa_cons (pv 0) (pa_cons (pv 3) pa_nil))))) pss_nil)))
        (pss_one (ps_ret (pe_lc (own := [("_law_head", 6), ("_law_other", 7)]) (g := gTup K 2 (gCons (gName 6) (gCons (gName 7) gNil))) (by rfl) scR.nd (pi_zip rfl T.zip (pa_cons (pe_call GC hr rfl dC.at_ dC.fn.kp dC.bi .nil pass0 (pa_cons (pv 0) (pa_cons (pv 2) pa_nil))) (pa_cons (pv 3) pa_nil))) (blkOk_by (own := [("_law_head", 6), ("_law_other", 7)]) (N := NR) (sc := defScope sLrows) (by decide +kernel)) (fun _ _ _ _ _ => pg_tup rfl (pgs_cons (pg_name (i := 6) scR.nd rfl (Or.inl rfl)) (pgs_cons (pg_name (i := 7) scR.nd rfl (Or.inl rfl)) pgs_nil))) (fun _ _ _ _ _ => pts_nil) (fun _ _ _ _ _ => pe_tup (pa_cons (pv 6) (pa_cons (pv 7) pa_nil)))))))))), ?_⟩
    have big : ∀ {m : Nat}, m ≤ 1000 → m ≤ sizeLine := fun h => Nat.le_trans h (by decide)
    refine ⟨_, rfl, _, rfl, b, la, _, rfl, B, by omega, by omega, fun r H1 r0 r1 kp1 B1 => ?_⟩
    obtain ⟨n, rfl⟩ := Int.eq_ofNat_of_zero_le r0
    refine ⟨_, _, rfl, rfl, _, rfl, _, rfl, b, la, 1 + n, by rw [Int.natCast_add]; rfl, B1, by omega, by omega, fun p2 H2 l hp2 kp2 B2 h2 l2 an de sz => ?_⟩
    have hp2' : H p2 = none := by
      cases q : H p2 with
      | none => rfl
      | some o =>
        by_cases e : p2 = b
        · exact absurd e (B1.new hp2).1
        · have := kp1 p2 o e q; rw [hp2] at this; cases this
    refine ⟨_, rfl, b, la, _, rfl, B2, by decide, by decide, fun r H3 r0 r1 kp3 B3 => ?_⟩
    have h3 := kp3 _ _ (B.new hp2').1 h2
    have kp := (kp1.trans kp2).trans kp3
    clear kp1 kp2 kp3 B1 B2 h2 r1
    dsimp only [gName]
    refine seq_gen (fun σ H4 => ∃ (p4 : Addr) (l4 : List W) (o4 o5 : Option V), σ = [some (.ref b), some (.int (m : Int)), some (.int ((1 : Int) + n)), some (.ref p4), o4, o5, none, none] ∧ But b H H4 ∧ Box H4 b la ∧ H4 p4 = some (.lst (tvs l4)) ∧ l4.Perm l) (fun nx hn => ?_) ?_
    · refine ⟨_, rfl, rfl, _, rfl, ite2 (fun _ => ?_) fun _ => ?_⟩
      · refine ⟨_, rfl, _, rfl, b, la, _, rfl, B3, by omega, by omega, fun t H4 t0 t1 kp4 B4 => ?_⟩
        obtain ⟨j, rfl⟩ := Int.eq_ofNat_of_zero_le t0
        have h4 := kp4 _ _ (B.new hp2').1 h3
        refine ⟨_, rfl, _, rfl, _, rfl, p2, _, rfl, SqL.of h4, fun q1 hq1 => ?_⟩
        have s1 : Same H4 (upd H4 q1 (.lst (cutV (tvs l) (some (j : Int)) none))) := Same.new hq1
        refine ⟨_, rfl, _, rfl, _, rfl, p2, _, rfl, SqL.of (s1 _ _ h4), fun q2 hq2 => ?_⟩
        have e1 : cutV (tvs l) (some (j : Int)) none = tvs (l.drop j) := cutV_drop tv l j (by omega)
        have e2 : cutV (tvs l) none (some (j : Int)) = tvs (l.take j) := cutV_take tv l j (by omega)
        rw [e1] at s1 hq2 ⊢
        rw [e2]
        refine ⟨q1, q2, _, _, rfl, rfl, (Same.new hq2) _ _ upd_same, upd_same, by rw [len_tvs, len_tvs, List.length_drop, List.length_take]; exact big (by omega), fun q3 hq3 => ?_⟩
        have s3 := (s1.trans (Same.new (o := .lst (tvs (l.take j))) hq2)).trans (Same.new (o := .lst (tvs (l.drop j) ++ tvs (l.take j))) hq3)
        refine hn _ _ ⟨q3, l.drop j ++ l.take j, _, _, rfl, (kp.trans kp4).trans (But.of s3), B4.keep s3, ?_, ?_⟩
        · rw [upd_same]; unfold tvs; rw [List.map_append]
        · refine List.perm_append_comm.trans ?_
          rw [List.take_append_drop]
      · refine ⟨_, rfl, _, _, rfl, rfl, _, rfl, ite2 (fun _ => ?_) fun _ => ?_⟩
        · refine ⟨_, rfl, _, rfl, b, la, p2, l, rfl, B3, h3, by omega, fun p4 H4 m4 hp4 kp4 B4 h4 pm => hn _ _ ⟨p4, m4, _, _, rfl, kp.trans kp4, B4, h4, pm⟩⟩
        · exact hn _ _ ⟨p2, l, _, _, rfl, kp, B3, h3, .refl _⟩
    rintro σ H4 ⟨p4, l4, o4, o5, rfl, kp4, B4, h4, pm⟩
    refine ⟨_, rfl, _, rfl, b, la, 1 + n, by rw [Int.natCast_add]; rfl, B4, by omega, by omega, fun p5 H5 lh hp5 kp5 B5 h5 l5 an5 de5 sz5 => ?_⟩
    have np4 : p4 ≠ b := by
      obtain ⟨ns, i, z, sd, c, b1, b2, b3⟩ := B4.ex
      refine ne_of h4 b2 fun e => ?_
      have e := HO.lst.inj e
      cases l4 with
      | nil => cases e
      | cons n r => exact nomatch (List.cons.inj e).1
    have h45 := kp5 _ _ np4 h4
    have kp' := kp4.trans kp5
    have ll : lh.length = l4.length := by rw [l5, pm.length_eq, l2]
    refine ⟨_, rfl, p5, p4, _, _, rfl, SqL.of h5, SqL.of h45, fun D hD => ?_⟩
    have hDH : H D = none := kp'.free B5 hD
    refine lc_zip (K := K) (a := p5) (b := p4) (xs := tvs lh) (ys := tvs l4) (fun i H6 => Same H5 H6 ∧ ∃ qs : List Addr, H6 D = some (.lst (qs.map V.ref)) ∧ PTn H6 qs ((lh.zip l4).take i)) ⟨Same.new hD, [], upd_same, .nil⟩ (fun i H6 z => ⟨SqL.of (z.1 _ _ h5), SqL.of (z.1 _ _ h45)⟩) ?_ ?_
    · rintro i x y H6 T' hx hy hT ⟨s6, qs, hD6, hqs⟩
      obtain ⟨x, hx', rfl⟩ := tvs_at hx
      obtain ⟨y, hy', rfl⟩ := tvs_at hy
      have sT : Same H6 (upd H6 T' (.tup [tv x, tv y])) := Same.new hT
      refine ⟨T', _, rfl, SqT.of upd_same, rfl, _, _, rfl, _, _, rfl, rfl, rfl, _, rfl, _, rfl, by show 2 ≤ sizeLine; decide, fun t ht => ?_⟩
      have st := sT.trans (Same.new (o := .tup [tv x, tv y]) ht)
      have lq := hqs.len
      rw [List.length_take] at lq
      have ez : (lh.zip l4)[i]? = some (x, y) := by
        rw [List.getElem?_zip_eq_some]; exact ⟨hx', hy'⟩
      have kk := KpT.set (o' := .lst (qs.map V.ref ++ [.ref t])) (st _ _ hD6) (fun _ z => nomatch z) (fun _ _ z => nomatch z)
      refine ⟨_, st _ _ hD6, ?_, fun c o e => ?_, qs ++ [t], by rw [upd_same, List.map_append]; rfl, ?_⟩
      · rw [List.length_map, lq, List.length_zip]
        refine Nat.lt_of_le_of_lt (Nat.min_le_right _ _) (small1000 ?_)
        rw [l5]; omega
      · rw [upd_ne (ne_of_none e hD)]; exact st _ _ (s6 _ _ e)
      · rw [List.take_add_one, ez]
        exact (PTn.keep ((KpT.of st).trans kk) hqs).app (.cons (kk.t _ _ upd_same) .nil)
    · rintro H6 ⟨s6, qs, hD6, hqs⟩
      rw [len_tvs, len_tvs, List.take_of_length_le (by rw [List.length_zip]; omega)] at hqs
      refine k D H6 (lh.zip l4) hDH (kp'.trans (But.of s6)) (B5.keep s6) ⟨qs, hD6, hqs⟩ ⟨?_, ?_⟩ ?_ ?_ ?_
      · rw [hds_zip ll]; exact ⟨an5, de5⟩
      · rw [ots_zip ll]; exact ⟨an.perm pm.symm, fun r => (den_perm pm r).mpr (de r)⟩
      · rw [List.length_zip]; omega
      · rw [List.length_zip]; omega
      · intro z hz
        obtain ⟨z1, z2⟩ := List.of_mem_zip (show (z.1, z.2) ∈ _ from hz)
        exact ⟨Nat.le_trans (sz5 _ z1) (by omega), Nat.le_trans (sz _ (pm.mem_iff.mp z2)) (by omega)⟩
end
end Hs

/-! part K14std -/
set_option Elab.async false
set_option linter.all false
set_option maxRecDepth 100000
set_option maxHeartbeats 1000000
namespace Hs
open PySem L2 Hm
abbrev sStd : Stmt := top 76
def spStd (K : PySem.W.Frag) (C : Addr) : Sp := fun vs H Q _ => ∃ (x a : Addr) (F T : Tb), vs = [.ref x, .ref a] ∧ SwAt K C H x F ∧ LT K H a T ∧ Xc T ∧ T.length < 64 ∧ Sz 1000 T ∧ Few T F ∧ F.length ≤ 100 ∧ ∀ H', Same H H' → Q (.bl true) H'
/-- a method of an exchange -/
structure SDef (K : PySem.W.Frag) (C : Addr) (x q : Str) (st : Stmt) (ps : List Str) (f : Addr) (fd : FuncData) : Prop where
  fn : Fun K x q st f fd
  bi : Binds K fd ps []
  me : Meth K C x f
theorem rows_ne : ¬ (("rows" : Str) = "table") := by decide +kernel
/-- two lists of new pairs that tell one table are like -/
theorem PTn.lk {H : Hp} : ∀ {ps qs : List Addr} {F : Tb}, PTn H ps F → PTn H qs F → ∀ (i : Nat) x y, (ps.map V.ref)[i]? = some x → (qs.map V.ref)[i]? = some y → Lk H 1 x y := fun {ps qs F} h1 h2 i x y hx hy => by
  rw [List.getElem?_map, Option.map_eq_some_iff] at hx hy
  obtain ⟨p, hp, rfl⟩ := hx
  obtain ⟨q, hq, rfl⟩ := hy
  obtain ⟨z, hz, e1⟩ := h1.at i hp
  obtain ⟨z', hz', e2⟩ := h2.at i hq
  rw [hz] at hz'
  cases hz'
  refine .inr ⟨p, q, _, _, rfl, rfl, .inr ⟨e1, e2⟩, rfl, by show 2 ≤ 1000000; decide, fun j a b ha hb => ?_⟩
  match j, ha, hb with
  | 0, ha, hb => cases ha; cases hb; exact ⟨rfl, rfl⟩
  | 1, ha, hb => cases ha; cases hb; exact ⟨rfl, rfl⟩
  | j + 2, ha, hb => cases ha
theorem NT.lk {H : Hp} {a b : Addr} {F : Tb} (h1 : NT H a F) (h2 : NT H b F) (hl : F.length ≤ 1000000) : Lk H 2 (.ref a) (.ref b) := by
  obtain ⟨ps, e1, p1⟩ := h1
  obtain ⟨qs, e2, p2⟩ := h2
  have l1 := p1.len
  have l2 := p2.len
  exact .inr ⟨a, b, _, _, rfl, rfl, .inl ⟨e1, e2⟩, by rw [List.length_map, List.length_map]; omega, by rw [List.length_map]; omega, fun i x y hx hy => PTn.lk p1 p2 i x y hx hy⟩
/-- two lists of two things -/
theorem lk_two {H : Hp} {n : Nat} {a b : Addr} {x y x' y' : V} (h1 : H a = some (.lst [x, y])) (h2 : H b = some (.lst [x', y'])) (k1 : Lk H n x x') (k2 : Lk H n y y') : Lk H (n + 1) (.ref a) (.ref b) := by
  refine .inr ⟨a, b, _, _, rfl, rfl, .inl ⟨h1, h2⟩, rfl, by show 2 ≤ 1000000; decide, fun j a b ha hb => ?_⟩
  match j, ha, hb with
  | 0, ha, hb => cases ha; cases hb; exact k1
  | 1, ha, hb => cases ha; cases hb; exact k2
  | j + 2, ha, hb => cases ha
theorem lk_flat {H : Hp} {n : Nat} {x : V} (h : flatV x = true) : Lk H n x x := by
  cases n with
  | zero => exact ⟨rfl, h⟩
  | succ n => exact .inl ⟨rfl, h⟩
section
variable {P : Program} {w : World} {K : PySem.W.Frag} {mg : Str → Option Value} {base : Heap}
abbrev NStd : List Str := ["_law_found", "_law_rows_here", "_law_due"]
theorem scStd : FnScope NStd ["_law_found", "_law_rows_here"] (defScope sStd) := ⟨rfl, rfl, rfl, by decide +kernel, rfl, by decide +kernel, by decide +kernel⟩



theorem ok_std {f fW fK fI fR fL C : Addr} {fd fdW fdK fdI fdR fdL : FuncData} (F : Fun K "_law_stands" "_law_stands" sStd f fd) (dW : Def K mg "_law_few" sLfew ["_law_rows_here"] fW fdW) (dI : Def K mg "_law_int" sInt ["_law_found"] fI fdI) (dK : Def K mg "_law_like" sLike ["_law_found", "_law_due"] fK fdK)
    (mR : SDef K C "rows" "Swap.rows" sSrows ["self"] fR fdR) (mL : SDef K C "__len__" "Swap.__len__" sSlen ["self"] fL fdL) (SC : SwC K mg C) (T : Txt mg) : FnOk P w K mg base CX0 6 f fd ["_law_found", "_law_rows_here"] (spStd K C) := by
  have GW : FnOk P w K mg base CX0 1 fW fdW ["_law_rows_here"] (spLfew K) := ok_lfew dW.fn T
  have GK : FnOk P w K mg base CX0 5 fK fdK ["_law_found", "_law_due"] (spLike 3) := ok_like dK.fn dI.fn dI.bi dI.at_ dK.bi dK.at_ T 3
  have GR : FnOk P w K mg base CX0 1 fR fdR ["self"] (spSrows K C) := ok_srows mR.fn T SC
  have GL : FnOk P w K mg base CX0 1 fL fdL ["self"] (spSlen K C) := ok_slen mL.fn T SC
  refine F.ok scStd (fun vs H Q E h => ?_) (fun cdv A outer s H vs Q E hr h => ?_)
  · obtain ⟨x, a, F, T, rfl, _⟩ := h
    rfl
  · obtain ⟨x, a, F, S, rfl, sw, lt, xc, lS, zS, fw, lF, k⟩ := h
    have hr1 : Room 1 _ := hr.mono (by decide)
    have hr2 : Room 2 _ := hr.mono (by decide)
    refine ⟨_, (pss_cons (ps_set (i := 2) scStd.nd rfl (Or.inl rfl) (pe_call GW hr1 rfl dW.at_ dW.fn.kp dW.bi .nil pass0 (pa_cons (pv 1) pa_nil)))
        (pss_one (ps_ret (pe_and (pe_callB call_isinst (by rfl) T.isinstance b_isi (pa_cons (pv 0) (pa_cons (pe_glob (v := .ref C) (by rfl) SC.mgC rfl) pa_nil))) (pe_one (pe_call GK hr rfl dK.at_ dK.fn.kp dK.bi .nil pass0 (pa_cons (pe_lst (pa_cons (pe_meth0 (pv 0) SC.cl mR.me GR hr1 mR.bi .nil pass0) (pa_cons (pe_callB (call_lenI mL.me GL hr2 mL.bi) (by rfl) T.len PySem.boot_len (pa_cons (pv 0) pa_nil)) pa_nil))) (pa_cons (pe_lst (pa_cons (pv 2) (pa_cons (pe_callB call_len_seq (by rfl) T.len PySem.boot_len (pa_cons (pv 2) pa_nil)) pa_nil))) pa_nil)))))))), ?_⟩
    refine ⟨_, rfl, a, S, rfl, lt, xc, lS, zS, fun d H1 G hd s1 nt fw1 lG zG => ?_⟩
    have eG : G = F := fw1.uniq fw (Eqv.refl _)
    subst eG
    obtain ⟨dx, t, hx, tn⟩ := sw.same s1
    refine ⟨_, rfl, _, _, .ref C, true, rfl, .ins hx SC.cl SC.ty1 SC.ty2 SC.ty3 SC.ty4, (fun z => nomatch z), ?_, true, rfl, iteT ?_⟩
    · show PySem.W.kitOne K (.ref C) (.ref C) = some true
      unfold PySem.W.kitOne
      rw [if_pos (by simp)]
    refine ⟨_, rfl, x, dx, _, rfl, hx, sfl_no t rows_ne, x, G, rfl, ⟨dx, t, hx, tn⟩, fun r H2 hr2' s2 nr => ?_⟩
    have hx2 := s2 _ _ hx
    refine ⟨_, rfl, x, dx, _, rfl, hx2, x, G, rfl, ⟨dx, t, hx2, tn.same s2⟩, ⟨G.length, rfl, by omega⟩, by show 2 ≤ sizeLine; decide, fun l1 hl1 => ?_⟩
    have s3 : Same H2 (upd H2 l1 (.lst [.ref r, .int (G.length : Int)])) := Same.new hl1
    obtain ⟨dq, hd1, pd⟩ := nt.same (s2.trans s3)
    have ld := pd.len
    refine ⟨_, rfl, _, rfl, d, _, rfl, .inl (SqL.of hd1), by show 2 ≤ sizeLine; decide, fun l2 hl2 => ?_⟩
    rw [List.length_map, ld]
    have s4 : Same (upd H2 l1 (.lst [.ref r, .int (G.length : Int)])) (upd (upd H2 l1 (.lst [.ref r, .int (G.length : Int)])) l2 (.lst [.ref d, .int (G.length : Int)])) := Same.new hl2
    refine ⟨_, _, rfl, lk_two (s4 _ _ upd_same) upd_same (NT.lk (nr.same (s3.trans s4)) (nt.same ((s2.trans s3).trans s4)) (by omega)) (lk_flat rfl), fun H5 s5 => ?_⟩
    exact k H5 (s1.trans ((s2.trans s3).trans (s4.trans s5)))
end
end Hs

/-! part K14xb -/
set_option Elab.async false
set_option linter.all false
set_option maxRecDepth 100000
set_option maxHeartbeats 1000000
namespace Hs
open PySem L2 Hm
/-! ### exchanges beside the box and lists that are changed -/
theorem SwAt.but {K : PySem.W.Frag} {C x b la : Addr} {H H' : Hp} {F : Tb} (h : SwAt K C H x F) (k : But b H H') (B : Box H b la) : SwAt K C H' x F := by
  obtain ⟨dx, t, h1, h2⟩ := h
  obtain ⟨ns, i, z, sd, c, b1, b2, b3⟩ := id B.ex
  exact ⟨dx, t, k _ _ (ne_of h1 b2 (by intro z; cases z)) h1, h2.kp (k.kt B)⟩
theorem mk_keep {H H' : Hp} {x dx C : Addr} (hx : H x = none) (hd : H dx = none) (k : ∀ c o, (upd (upd H dx (.own x)) x (.ins C dx [])) c = some o → c ≠ x → H' c = some o) : Same H H' := fun c o e => by
  have n1 := ne_of_none e hx
  have n2 := ne_of_none e hd
  exact k c o (by rw [upd_ne n1, upd_ne n2]; exact e) n1
theorem mk_sw {K : PySem.W.Frag} {C a x dx : Addr} {b : Bool} {H : Hp} {T : Tb} {R : VK} {E : XK} (bt : BT K b H a T) (xc : Xc T) (lT : T.length ≤ 60) (zT : Sz 60 T) (hx : H x = none) (hd : H dx = none) (k : ∀ H' F, Same H H' → SwAt K C H' x F → Few T F → F.length ≤ T.length → Sz 10000 F → R .non H') :
    spSin K C [.ref x, .ref a] (upd (upd H dx (.own x)) x (.ins C dx [])) R E := by
  have sm : Same H (upd (upd H dx (.own x)) x (.ins C dx [])) := fun c o e => by rw [upd_ne (ne_of_none e hx), upd_ne (ne_of_none e hd)]; exact e
  exact ⟨x, dx, a, b, T, rfl, upd_same, bt.same sm, xc, lT, zT, fun H' F kp sw fw lF zF => k H' F (mk_keep hx hd kp) sw fw lF zF⟩
theorem Sz.mono {m n : Nat} {T : Tb} (h : Sz m T) (l : m ≤ n) : Sz n T := fun z hz => ⟨Nat.le_trans (h z hz).1 l, Nat.le_trans (h z hz).2 l⟩
end Hs

/-! part K14hx -/
set_option Elab.async false
set_option linter.all false
set_option maxRecDepth 100000
namespace Hs
open PySem L2 Hm
/-- a text that is a head, as signs -/
theorem sg_ex {a : Str} (h : sg a = true) : ∃ x : W, a = tx x := by
  have h := of_decide_eq_true h
  refine ⟨a.cps.toList.map fun c => decide (c = 49), str_ext ?_⟩
  rw [tl_tx, List.map_map]
  refine (List.map_id a.cps.toList).symm.trans (List.map_congr_left fun c hc => ?_)
  rcases h c hc with rfl | rfl <;> rfl
theorem isH_ex {a : Str} (h : isH a = true) : ∃ x : W, a = tx x ∧ x.length ≤ 60 := by
  unfold isH at h
  rw [Bool.and_eq_true, decide_eq_true_eq] at h
  obtain ⟨x, rfl⟩ := sg_ex h.2
  exact ⟨x, rfl, by rw [← tx_len]; exact h.1⟩
end Hs

/-! part K14rdy -/
set_option Elab.async false
set_option linter.all false
set_option maxRecDepth 100000
namespace Hs
open PySem L2 Hm
/-- a lambda's name within the law -/
def lawQ : Str := (("law" : Str) ++ ".<locals>.") ++ "<lambda>"
/-- the box and the table stand -/
structure Rdy (H : Hp) (b la Pt : Addr) : Prop where
  box : Box H b la
  tab : TabOk H Pt lawQ
section
variable {H H' : Hp} {b la Pt p : Addr}
theorem Rdy.ne (R : Rdy H b la Pt) : b ≠ Pt ∧ la ≠ Pt := by
  obtain ⟨ns, i, z, sd, c, h1, h2, h3⟩ := R.box.ex
  obtain ⟨ps, g1, _⟩ := R.tab
  exact ⟨ne_of h2 g1 (by intro z; cases z), ne_of h1 g1 (by intro z; cases z)⟩
theorem Rdy.but (R : Rdy H b la Pt) (k : But b H H') (B : Box H' b la) : Rdy H' b la Pt := by
  obtain ⟨ns, i, z, sd, c, h1, h2, h3⟩ := R.box.ex
  refine ⟨B, R.tab.keep fun d o e q => k d o ?_ e⟩
  rintro rfl
  rw [h2] at e
  cases e
  rcases q with ⟨_, q⟩ | ⟨_, _, q⟩ <;> cases q
theorem Rdy.same (R : Rdy H b la Pt) (k : Same H H') : Rdy H' b la Pt := ⟨R.box.keep k, R.tab.keep fun d o e _ => k d o e⟩
theorem Rdy.why (R : Rdy H b la Pt) (T : TabOk H' Pt lawQ) (k : ∀ d o, d ≠ Pt → H d = some o → H' d = some o) : Rdy H' b la Pt := by
  obtain ⟨ns, i, z, sd, c, h1, h2, h3⟩ := R.box.ex
  exact ⟨⟨ns, i, z, sd, c, k _ _ R.ne.2 h1, k _ _ R.ne.1 h2, h3⟩, T⟩
theorem Rdy.tbl (R : Rdy H b la Pt) : ∃ ps, H Pt = some (.tbl ps) := let ⟨ps, h, _⟩ := R.tab; ⟨ps, h⟩
end
theorem atI_mem {l : List V} {r : Int} (h0 : 0 ≤ r) (h1 : r < l.length) : ∃ v, v ∈ l ∧ atI l r = some v := by
  obtain ⟨n, rfl⟩ := Int.eq_ofNat_of_zero_le h0
  have hn : n < l.length := by omega
  exact ⟨l[n], List.getElem_mem hn, atI_nat (List.getElem?_eq_getElem hn)⟩
end Hs

/-! part Hq -/
set_option Elab.async false
set_option linter.all false
namespace Hs
open PySem L2 Hm
theorem first_drop_get (s : Row) {a b i : Nat} (h : a + i < b) : ((firstN s b).drop a)[i]? = some (s (a + i)) := by
  rw [List.getElem?_drop, first_get s h]
end Hs

/-! part Hg -/
namespace Hm
/-! ### what a row goes to -/
theorem un_first : ∀ (x : W) (r : Row), Un x r ↔ firstN r x.length = x
  | [], r => by
    constructor
    · intro _; rfl
    · intro _; trivial
  | b :: x, r => by
    rw [List.length_cons, first_succ]
    show (_ ∧ _) ↔ _
    rw [un_first x, List.cons.injEq]
theorem take_first (q : Row) {a b : Nat} (h : a ≤ b) : (firstN q b).take a = firstN q a := by
  unfold firstN
  rw [← List.map_take, List.take_range, Nat.min_eq_left h]
def Img (z : W × W) (q : Row) : Row := put z.2 fun i => q (i + z.1.length)
theorem first_split {q : Row} {x : W} (h : firstN q x.length = x) {M : Nat} (hM : x.length ≤ M) : firstN q M = x ++ (firstN q M).drop x.length := by
  have := List.take_append_drop x.length (firstN q M)
  rw [take_first q hM, h] at this
  exact this.symm
theorem img_at {z : W × W} {q : Row} {n M : Nat} (h : n + z.1.length < M) : (z.2 ++ (firstN q M).drop z.1.length)[n]? = some (Img z q n) := by
  unfold Img
  by_cases hn : n < z.2.length
  · rw [List.getElem?_append_left hn]
    exact put_get hn
  · rw [List.getElem?_append_right (by omega), Hs.first_drop_get q (by omega)]
    unfold put
    rw [if_neg hn]
    congr 1
    congr 1
    omega
theorem img_eq {T T' : Tb} (an' : Anti (hds T')) (e : Eqv T T') {z z' : W × W} (m : z ∈ T) (m' : z' ∈ T') {q : Row} (h : firstN q z.1.length = z.1) (h' : firstN q z'.1.length = z'.1) (n : Nat) : Img z q n = Img z' q n := by
  obtain ⟨N, e⟩ := e
  have l1 : Ld T (firstN q (N + z.1.length + z'.1.length + n + 1)) (z.2 ++ (firstN q (N + z.1.length + z'.1.length + n + 1)).drop z.1.length) := ⟨z, m, _, first_split h (by omega), rfl⟩
  have l2 : Ld T' (firstN q (N + z.1.length + z'.1.length + n + 1)) (z'.2 ++ (firstN q (N + z.1.length + z'.1.length + n + 1)).drop z'.1.length) := ⟨z', m', _, first_split h' (by omega), rfl⟩
  have l3 := ld_fun an' ((e _ (by rw [first_len]; omega) _).mp l1) l2
  have a1 := img_at (z := z) (q := q) (n := n) (M := N + z.1.length + z'.1.length + n + 1) (by omega)
  have a2 := img_at (z := z') (q := q) (n := n) (M := N + z.1.length + z'.1.length + n + 1) (by omega)
  rw [l3, a2] at a1
  exact (Option.some.inj a1).symm
theorem cov_first {T : Tb} (c : Cov (hds T)) (q : Row) : ∃ z ∈ T, firstN q z.1.length = z.1 := by
  obtain ⟨x, hx, u⟩ := c q
  obtain ⟨z, m, rfl⟩ := List.mem_map.mp hx
  exact ⟨z, m, (un_first _ _).mp u⟩
theorem first_pre {q : Row} {x y : W} (h : firstN q x.length = x) (h' : firstN q y.length = y) : x <+: y ∨ y <+: x := by
  rcases Nat.le_total x.length y.length with l | l
  · left
    rw [← h, ← h', ← take_first q l]
    exact List.take_prefix _ _
  · right
    rw [← h, ← h', ← take_first q l]
    exact List.take_prefix _ _
theorem sl_uniq {T : Tb} (an : Anti (hds T)) {h k k' : W} (a : SL T h k) (b : SL T h k') : k = k' := by
  obtain ⟨N, a⟩ := a
  obtain ⟨M, b⟩ := b
  have l1 := a (List.replicate (N + M) false) (by simp)
  have l2 := b (List.replicate (N + M) false) (by simp)
  exact List.append_cancel_right (ld_fun an l1 l2)
theorem sl_ext {T : Tb} {h k : W} (a : SL T h k) (v : W) : SL T (h ++ v) (k ++ v) := by
  obtain ⟨N, a⟩ := a
  refine ⟨N, fun u hu => ?_⟩
  rw [List.append_assoc, List.append_assoc]
  exact a _ (by rw [List.length_append]; omega)
/-- the fewest rows are no longer -/
theorem few_sz {S G : Tb} (f : Few S G) (c : Cov (hds S)) {n : Nat} (z : ∀ q ∈ S, q.1.length ≤ n ∧ q.2.length ≤ n) : ∀ q ∈ G, q.1.length ≤ n ∧ q.2.length ≤ n := by
  intro q hq
  obtain ⟨y, hy, cmp⟩ := cov_row c q.1
  have sy : SL G y.1 y.2 := sl_eqv f.e (sl_mem (show (y.1, y.2) ∈ S from hy))
  have sq' : SL G q.1 q.2 := sl_mem (show (q.1, q.2) ∈ G from hq)
  have zy := z y hy
  rcases cmp with p | p
  · have e := sl_min f.x.h.an f.x.h.de f.rd hq p sy
    rw [e] at sy
    rw [← e, ← sl_uniq f.x.h.an sy sq']
    exact zy
  · obtain ⟨w, ew⟩ := p
    have s2 := sl_ext sq' w
    rw [ew] at s2
    have e2 := sl_uniq f.x.h.an sy s2
    constructor
    · rw [← ew, List.length_append] at zy; omega
    · rw [e2, List.length_append] at zy; omega
theorem few_len {S G : Tb} (f : Few S G) : 1 ≤ G.length := by
  obtain ⟨z, m, _⟩ := cov_row f.x.h.de []
  exact List.length_pos_of_mem m
end Hm

/-! part K14mov -/
set_option Elab.async false
set_option linter.all false
set_option maxRecDepth 100000
set_option maxHeartbeats 1000000
namespace Hs
open PySem L2 Hm
abbrev sMov : Stmt := top 45
theorem cut_drop (x : W) (n : Nat) : cutS (tx x) (some (n : Int)) none = tx (x.drop n) := by
  refine str_ext ?_
  show (((tx x).cps.toList.drop (HT.sIx (tx x).length 0 (some (n : Int)))).take (HT.sIx (tx x).length (tx x).length none - HT.sIx (tx x).length 0 (some (n : Int)))) = _
  rw [tl_tx, tl_tx, tx_len, HT.sIx_nat, HT.sIx_none, ← List.map_drop, ← List.map_take]
  congr 1
  by_cases h : n ≤ x.length
  · rw [Nat.min_eq_left h]
    exact List.take_of_length_le (by rw [List.length_drop]; omega)
  · rw [Nat.min_eq_right (by omega), List.drop_length, List.take_nil, List.drop_eq_nil_of_le (by omega)]
def spMov (K : PySem.W.Frag) : Sp := fun vs H Q _ => ∃ (h : W) (p : Addr) (z : W × W), vs = [tv h, .ref p] ∧ SqT K H p [tv z.1, tv z.2] ∧ h.length ≤ 10000 ∧ z.1.length ≤ 10000 ∧ z.2.length ≤ 10000 ∧ Q (tv (z.2 ++ h.drop z.1.length)) H
theorem starts_txd (h x : W) : Txt.startswith (tx h) (tx x) = decide (x <+: h) := by
  rw [Bool.eq_iff_iff, starts_tx, decide_eq_true_eq]
section
variable {P : Program} {w : World} {K : PySem.W.Frag} {mg : Str → Option Value} {base : Heap}
abbrev NMo : List Str := ["head", "row", "begin", "end"]
theorem scMo : FnScope NMo ["head", "row"] (defScope sMov) := ⟨rfl, rfl, rfl, by decide +kernel, rfl, by decide +kernel, by decide +kernel⟩


theorem ok_mov {f : Addr} {fd : FuncData} (F : Fun K "moved" "moved" sMov f fd) (T : Txt mg) : FnOk P w K mg base CX0 1 f fd ["head", "row"] (spMov K) := by
  refine F.ok scMo (fun vs H Q E h => ?_) (fun cdv A outer s H vs Q E hr h => ?_)
  · obtain ⟨h, p, z, rfl, _⟩ := h
    rfl
  · obtain ⟨h, p, z, rfl, hp, l0, l1, l2, k⟩ := h
    refine ⟨_, (pss_cons (ps_asg (pv 1) (pg_tup rfl (pgs_cons (pg_name (i := 2) scMo.nd rfl (Or.inl rfl)) (pgs_cons (pg_name (i := 3) scMo.nd rfl (Or.inl rfl)) pgs_nil))))
        (pss_one (ps_ret (pe_op op_add_str (pv 3) (pe_slice sl_str (pv 0) (po_some (pe_callB call_len_str (by rfl) T.len PySem.boot_len (pa_cons (pv 2) pa_nil))) po_none))))), ?_⟩
    refine ⟨_, rfl, p, _, rfl, hp, rfl, _, _, rfl, _, _, rfl, rfl, ?_⟩
    have big : ∀ {m : Nat}, m ≤ 100000 → m ≤ sizeLine := fun h => Nat.le_trans h (by decide)
    refine ⟨_, rfl, _, rfl, _, rfl, _, rfl, by rw [tx_len]; exact big (by omega), _, rfl, _, rfl, by rw [tx_len]; exact big (by omega), ?_⟩
    rw [tx_len, cut_drop]
    refine ⟨_, _, rfl, rfl, by rw [tx_len, tx_len, List.length_drop]; exact big (by omega), ?_⟩
    rw [tx_app]
    exact k
end
end Hs

/-! part K14com -/
set_option Elab.async false
set_option linter.all false
set_option maxRecDepth 100000
set_option maxHeartbeats 1000000
namespace Hs
open PySem L2 Hm
abbrev sCom : Stmt := top 31
section
variable {X : Cx} {e : Expr} {es : List Expr} {te : TE} {t : TA} {p : Pos}
/-- *xs in a list display -/
def tStar (K : PySem.W.Frag) (te : TE) (t : TA) : TA := fun σ H Q => te σ H fun x H1 => ∃ a xs, x = .ref a ∧ SqL K H1 a xs ∧ t σ H1 fun ys H2 => Q (xs ++ ys) H2
theorem pa_star (ha : PE X e te) (hr : PA X es t) (he : starEach (.Starred e p :: es) X.env = (true, eval e X.env) :: starEach es X.env := by rfl) : PA X (.Starred e p :: es) (tStar X.K te t) := by
  intro pos pins s σ H Q I h
  refine PySem.W.items_star (thn (ha pins s σ H _ I h) fun v s1 ⟨x, H1, I1, rx, a, xs, ex, hq, q⟩ => ?_) he
  subst ex
  obtain rfl : v = Value.ref a := rx
  obtain ⟨its, rv, ⟨o, n, ho, hc, hdn, hd⟩, hz⟩ := I1.list hq
  have hz' : its.toArray.size ≤ sizeLine := by rw [List.size_toArray, ← rv.length]; exact hz
  unfold PySem.W.StarOf notIterableAtAll
  refine wpAny_bind (wpAny_specialOf ⟨o, ho, hc⟩ PySem.F.slot_list_iter.lookup (wpAny_pure ⟨rfl, ?_⟩))
  refine wpAny_collect_seq a (.inl rfl) ho hc hd (fun h' hk => ?_) hz'
  have I2 : Inv X pins σ H1 { s1 with heap := h' } := I1.kept (t' := s1.toks) fun b ob q => hk b ob q
  refine thn (hr pos pins _ σ H1 _ I2 q) fun us s2 ⟨ys, H2, I3, r3, q3⟩ => ⟨xs ++ ys, H2, I3, ?_, q3⟩
  exact Vals.append (by simpa using rv) r3
end
def spCom : Sp := fun vs H Q _ => ∃ (a b : Addr) (l m : List W), vs = [.ref a, .ref b] ∧ H a = some (.lst (tvs l)) ∧ H b = some (.lst (tvs m)) ∧ l.length + m.length < 64 ∧
  ∀ p H' t, H p = none → Same H H' → H' p = some (.lst (tvs t)) → Com l m t → t.length < 64 → Q (.ref p) H'
section
variable {P : Program} {w : World} {K : PySem.W.Frag} {mg : Str → Option Value} {base : Heap}
theorem scCm : FnScope ["one", "other", "told", "head"] ["one", "other"] (defScope sCom) := ⟨rfl, rfl, rfl, by decide +kernel, rfl, by decide +kernel, by decide +kernel⟩
theorem ok_com {f : Addr} {fd : FuncData} (F : Fun K "common" "common" sCom f fd) (T : Txt mg) : FnOk P w K mg base CX0 1 f fd ["one", "other"] spCom := by
  refine F.ok scCm (fun vs H Q E h => ?_) (fun cdv A outer s H vs Q E hr h => ?_)
  · obtain ⟨a, b, l, m, rfl, _⟩ := h
    rfl
  · obtain ⟨a, b, l, m, rfl, ha, hb, h64, k⟩ := h
    refine ⟨_, pss_cons (ps_set (i := 2) scCm.nd rfl (Or.inl rfl) (pe_lst pa_nil))
      (pss_cons (ps_for PassesOwn.never rfl (pi_list (pe_callB cr_sortedS (by rfl) T.sorted b_sorted (pa_cons (pe_lst (pa_star (pv 0) (pa_star (pv 1) pa_nil))) pa_nil))) (pg_name (i := 3) scCm.nd rfl (Or.inl rfl))
        (pss_cons (ps_if (PW.pt (pw_and (pt_truth (pv 2) (by intro _; rfl)) (pw_and1 (pt_val (pe_m1 PySem.F.slot_str_startswith PySem.F.type_str_startswith mt_startswith (pv 3) (pe_ix ix_list (pv 2) (pe_un un_neg pe_int) (fun _ _ => rfl)))))))
          (pss_one (ps_expr (pe_bm0 PySem.F.plainAttrs_list PySem.F.slot_list_pop PySem.F.type_list_pop mt_pop (pv 2)))) pss_nil)
        (pss_one (ps_expr (pe_bm PySem.F.plainAttrs_list PySem.F.slot_list_append PySem.F.type_list_append mt_append (pv 2) (pa_cons (pv 3) pa_nil))))))
      (pss_one (ps_ret (pv 2)))), ?_⟩
    refine ⟨by show 0 ≤ sizeLine; decide, fun p hp => ?_⟩
    have s1 : Same H (upd H p (.lst [])) := Same.new hp
    refine ⟨_, rfl, a, _, rfl, SqL.of (s1 _ _ ha), _, rfl, b, _, rfl, SqL.of (s1 _ _ hb), ?_, fun u hu => ?_⟩
    · rw [List.append_nil, List.length_append, len_tvs, len_tvs]; exact Nat.le_trans (Nat.le_of_lt h64) (by decide)
    have emap : tvs l ++ (tvs m ++ []) = ((l ++ m).map tx).map V.str := by rw [← tvs_eq, List.append_nil]; unfold tvs; rw [List.map_append]
    rw [emap]
    refine ⟨u, (l ++ m).map tx, rfl, SqL.of upd_same, by rw [List.length_map, List.length_append]; exact h64, fun ys q pm so hq => ?_⟩
    obtain ⟨l', rfl, pl⟩ := perm_tx pm
    rw [← tvs_eq l']
    have srt := sortedS_pair so
    have npu : p ≠ u := ne_of_none upd_same hu
    have s2 := s1.trans (Same.new (o := .lst (((l ++ m).map tx).map V.str)) hu)
    have npq : p ≠ q := ne_of_none (by rw [upd_ne npu]; exact upd_same) hq
    have s3 := s2.trans (Same.new (o := .lst (tvs l')) hq)
    have hl' : l'.length < 64 := by rw [pl.length_eq, List.length_append]; exact h64
    refine ⟨q, rfl, ⟨_, SqL.of upd_same⟩, for_list (K := K) (a := q) (xs := tvs l') (fun i σ H1 => ∃ (t : List W) (o : Option V), σ = [some (.ref a), some (.ref b), some (.ref p), o] ∧ Same H H1 ∧ H1 q = some (.lst (tvs l')) ∧ H1 p = some (.lst (tvs t)) ∧ Cg (l'.take i) t ∧ t.length ≤ i) ?_ ?_ ?_ ?_⟩
    · refine ⟨[], none, rfl, s3, upd_same, by rw [upd_ne npq, upd_ne npu]; exact upd_same, by rw [List.take_zero]; exact cg_nil, Nat.le_refl _⟩
    · rintro i σ H1 _ ⟨t, o, _, _, h, _⟩
      exact SqL.of h
    · rintro i x σ H1 hx ⟨t, o, rfl, sm, hq1, hp1, g, tl⟩
      obtain ⟨h, hh, rfl⟩ := tvs_at hx
      have hi : i < l'.length := (List.getElem?_eq_some_iff.mp hh).1
      have tk : l'.take (i + 1) = l'.take i ++ [h] := by rw [List.take_add_one, hh]; rfl
      have hP : ∀ x ∈ l'.take i, ¬ lt h x := fun x hx => by
        have e : l' = l'.take i ++ l'.drop i := (List.take_append_drop _ _).symm
        rw [e] at srt
        refine (List.pairwise_append.mp srt).2.2 x hx h ?_
        rw [← List.getElem_cons_drop hi]
        rw [List.getElem?_eq_getElem hi] at hh
        rw [Option.some.inj hh]
        exact .head _
      dsimp only [gName]
      refine seq_gen (fun σ H2 => ∃ t : List W, σ = [some (.ref a), some (.ref b), some (.ref p), some (tv h)] ∧ Same H H2 ∧ H2 q = some (.lst (tvs l')) ∧ H2 p = some (.lst (tvs t)) ∧ Cg (l'.take (i + 1)) (t ++ [h]) ∧ t.length ≤ i) (fun nx hn => ?_) ?_
      · refine ⟨_, rfl, _, .inl ⟨_, SqL.of hp1, rfl⟩, ?_⟩
        rcases List.eq_nil_or_concat t with rfl | ⟨t0, c, rfl⟩
        · exact iteF (hn _ _ ⟨[], rfl, sm, hq1, hp1, by rw [tk]; exact cg_push g hP (fun c e => by cases e), tl⟩)
        rw [List.concat_eq_append] at hp1 g tl ⊢
        have ne : (!(tvs (t0 ++ [c])).isEmpty) = true := by unfold tvs; rw [List.map_append]; simp
        rw [ne]
        have eL : atI (tvs (t0 ++ [c])) (-1) = some (tv c) := by unfold tvs; rw [List.map_append]; exact atI_last _ _
        refine iteT ⟨_, rfl, ⟨_, rfl⟩, _, rfl, _, rfl, p, _, _, _, rfl, rfl, SqL.of hp1, eL, _, _, rfl, rfl, _, rfl, ?_⟩
        rw [starts_tx_dec]
        refine ite2 (fun e => ?_) (fun e => ?_)
        · have e : c <+: h := of_decide_eq_true e
          have eD : (tvs (t0 ++ [c])).dropLast = tvs t0 := by unfold tvs; rw [List.map_append]; exact List.dropLast_concat ..
          have eG : (tvs (t0 ++ [c]))[(tvs (t0 ++ [c])).length - 1]? = some (tv c) := by unfold tvs; rw [List.map_append]; simp
          refine ⟨_, rfl, .inl ⟨rfl, _, SqL.of hp1⟩, p, _, _, rfl, rfl, hp1, eG, ?_⟩
          rw [eD]
          refine hn _ _ ⟨t0, rfl, fun c o e => by rw [upd_ne (ne_of_none e hp)]; exact sm c o e, by rw [upd_ne npq.symm]; exact hq1, upd_same, by rw [tk]; exact cg_pop g hP e, ?_⟩
          rw [List.length_append] at tl; omega
        · refine hn _ _ ⟨t0 ++ [c], rfl, sm, hq1, hp1, ?_, tl⟩
          rw [tk]
          refine cg_push g hP fun c' hc => ?_
          have ec : c = c' := by simpa using hc
          rw [← ec]
          exact fun z => e (decide_eq_true z)
      · rintro σ H2 ⟨t, rfl, sm, hq1, hp1, g, tl⟩
        refine ⟨_, rfl, .inl ⟨rfl, _, SqL.of hp1⟩, _, rfl, p, _, _, rfl, rfl, hp1, ?_, ?_⟩
        · rw [len_tvs]; exact small1000 (by omega)
        · refine ⟨t ++ [h], _, rfl, fun c o e => by rw [upd_ne (ne_of_none e hp)]; exact sm c o e, by rw [upd_ne npq.symm]; exact hq1, ?_, g, ?_⟩
          · rw [upd_same]; unfold tvs; rw [List.map_append]; rfl
          · rw [List.length_append]; exact Nat.succ_le_succ tl
    · rintro σ H1 ⟨t, o, rfl, sm, hq1, hp1, g, tl⟩
      rw [len_tvs, List.take_length] at g
      rw [len_tvs] at tl
      refine ⟨_, rfl, k p H1 t hp sm hp1 ⟨g.st, fun x => ?_⟩ (by omega)⟩
      rw [g.me]
      unfold Mx
      rw [pl.mem_iff]
      constructor
      · exact fun q => ⟨q.1, fun y hy => q.2 y (pl.mem_iff.mpr hy)⟩
      · exact fun q => ⟨q.1, fun y hy => q.2 y (pl.mem_iff.mp hy)⟩

end
end Hs

/-! part Ha -/
namespace Hm
/-! ### what an exchange does to rows -/
open Classical in
noncomputable def act (T : Tb) (q : Row) : Row := if h : ∃ z, z ∈ T ∧ firstN q z.1.length = z.1 then Img (Classical.choose h) q else q
theorem act_at {T : Tb} (an : Anti (hds T)) {z : W × W} (m : z ∈ T) {q : Row} (h : firstN q z.1.length = z.1) : act T q = Img z q := by
  have ex : ∃ z, z ∈ T ∧ firstN q z.1.length = z.1 := ⟨z, m, h⟩
  unfold act
  rw [dif_pos ex]
  have sp := Classical.choose_spec ex
  rcases first_pre sp.2 h with p | p
  · rw [hds_fun an sp.1 m p]
  · rw [← hds_fun an m sp.1 p]
theorem act_eqv {T T' : Tb} (x : Xc T) (x' : Xc T') (e : Eqv T T') : act T = act T' := funext fun q => by
  obtain ⟨z, m, h⟩ := cov_first x.h.de q
  obtain ⟨z', m', h'⟩ := cov_first x'.h.de q
  rw [act_at x.h.an m h, act_at x'.h.an m' h']
  exact funext fun n => img_eq x'.h.an e m m' h h' n
theorem put_at (x : W) (c : Row) (i : Nat) : put x c (i + x.length) = c i := by
  unfold put
  rw [if_neg (by omega), Nat.add_sub_cancel]
theorem put_app' (a b : W) (c : Row) : put (a ++ b) c = put a (put b c) := funext fun n => Hs.put_app a b c n
theorem first_put (x : W) (c : Row) : firstN (put x c) x.length = x := by
  refine List.ext_getElem? fun i => ?_
  by_cases h : i < x.length
  · rw [first_get _ h]; exact (put_get h).symm
  · rw [List.getElem?_eq_none (by rw [first_len]; omega), List.getElem?_eq_none (by omega)]
theorem put_back {q : Row} {x : W} (h : firstN q x.length = x) : put x (fun i => q (i + x.length)) = q := funext fun n => by
  by_cases hn : n < x.length
  · have a := put_get (h := x) (c := fun i => q (i + x.length)) hn
    have b := first_get q hn
    rw [h] at b
    exact (Option.some.inj (b.symm.trans a)).symm
  · unfold put
    rw [if_neg hn]
    show q (n - x.length + x.length) = _
    rw [Nat.sub_add_cancel (by omega)]
theorem first_put_pre {x b : W} (p : x <+: b) (c : Row) : firstN (put b c) x.length = x := by
  obtain ⟨u, rfl⟩ := p
  rw [put_app']
  exact first_put x _
/-- a head led by a row of the table -/
def mv (b : W) (z : W × W) : W := z.2 ++ b.drop z.1.length
theorem img_put {z : W × W} {b : W} (p : z.1 <+: b) (c : Row) : Img z (put b c) = put (mv b z) c := by
  obtain ⟨u, rfl⟩ := p
  unfold Img mv
  rw [List.drop_left, put_app', put_app']
  exact congrArg (put z.2) (funext fun i => put_at z.1 _ i)
theorem act_put {U : Tb} (an : Anti (hds U)) {u : W × W} (m : u ∈ U) {b : W} (p : u.1 <+: b) (c : Row) : act U (put b c) = put (mv b u) c := by
  rw [act_at an m (first_put_pre p c), img_put p]
theorem put_inj {k k' : W} (h : ∀ t : Row, put k t = put k' t) : k = k' := by
  have aux : ∀ {a b : W}, (∀ t : Row, put a t = put b t) → ¬ a.length < b.length := fun {a b} h l => by
    have := congrFun (h fun _ => !(b.getD a.length false)) a.length
    unfold put at this
    rw [if_neg (Nat.lt_irrefl _), if_pos l] at this
    cases e : b.getD a.length false <;> rw [e] at this <;> cases this
  have e : k.length = k'.length := by
    have := aux h
    have := aux (a := k') (b := k) fun t => (h t).symm
    omega
  refine List.ext_getElem? fun i => ?_
  by_cases hi : i < k.length
  · rw [put_get (c := fun _ => false) hi, put_get (c := fun _ => false) (show i < k'.length by omega), h]
  · rw [List.getElem?_eq_none (by omega), List.getElem?_eq_none (by omega)]
theorem hd_bound : ∀ T : Tb, ∃ N, ∀ z ∈ T, z.1.length ≤ N
  | [] => ⟨0, fun z h => by cases h⟩
  | z :: T => by
    obtain ⟨N, h⟩ := hd_bound T
    refine ⟨N + z.1.length, fun y hy => ?_⟩
    rcases List.mem_cons.mp hy with rfl | hy
    · omega
    · have := h y hy; omega
theorem eqv_half {T T' : Tb} (an : Anti (hds T)) (x' : Xc T') (e : act T = act T') {N : Nat} (b' : ∀ z ∈ T', z.1.length ≤ N) {h k : W} (hl : N ≤ h.length) (l : Ld T h k) : Ld T' h k := by
  obtain ⟨z, m, u, rfl, rfl⟩ := l
  obtain ⟨z', m', c⟩ := cov_row x'.h.de (z.1 ++ u)
  have p : z'.1 <+: z.1 ++ u := by
    rcases c with c | c
    · exact c
    · rw [c.eq_of_length (Nat.le_antisymm c.length_le (Nat.le_trans (b' _ m') hl))]
      exact List.prefix_refl _
  have e2 : mv (z.1 ++ u) z = mv (z.1 ++ u) z' := put_inj fun t => by
    rw [← act_put an m ⟨u, rfl⟩ t, ← act_put x'.h.an m' p t, e]
  have e3 : mv (z.1 ++ u) z = z.2 ++ u := by unfold mv; rw [List.drop_left]
  obtain ⟨u', eu⟩ := p
  refine ⟨z', m', u', eu.symm, ?_⟩
  rw [← e3, e2, ← eu]
  unfold mv
  rw [List.drop_left]
theorem eqv_act {T T' : Tb} (x : Xc T) (x' : Xc T') (e : act T = act T') : Eqv T T' := by
  obtain ⟨N, b⟩ := hd_bound T
  obtain ⟨M, b'⟩ := hd_bound T'
  exact ⟨max N M, fun h hl k => ⟨eqv_half x.h.an x' e b' (by omega), eqv_half x'.h.an x e.symm b (by omega)⟩⟩
/-- the fewest rows of what is done -/
structure FewA (a : Row → Row) (F : Tb) : Prop where
  x : Xc F
  rd : Rdc F
  sd : Sd F
  e : act F = a
theorem FewA.uniq {a : Row → Row} {F F' : Tb} (f : FewA a F) (f' : FewA a F') : F = F' :=
  Few.uniq (T := F) (T' := F') ⟨f.x, f.rd, f.sd, Eqv.refl _⟩ ⟨f'.x, f'.rd, f'.sd, Eqv.refl _⟩ (eqv_act f.x f'.x (f.e.trans f'.e.symm))
theorem Few.a {T F : Tb} (f : Few T F) (x : Xc T) : FewA (act T) F := ⟨f.x, f.rd, f.sd, (act_eqv x f.x f.e).symm⟩
theorem FewA.few {a : Row → Row} {T F : Tb} (f : FewA a F) (x : Xc T) (e : act T = a) : Few T F := ⟨f.x, f.rd, f.sd, eqv_act x f.x (e.trans f.e.symm)⟩
/-! ### back -/
def tn (T : Tb) : Tb := T.map fun z => (z.2, z.1)
theorem hds_tn (T : Tb) : hds (tn T) = ots T := by unfold hds tn ots; rw [List.map_map]; rfl
theorem ots_tn (T : Tb) : ots (tn T) = hds T := by unfold hds tn ots; rw [List.map_map]; rfl
theorem xc_tn {T : Tb} (x : Xc T) : Xc (tn T) := ⟨by rw [hds_tn]; exact x.o, by rw [ots_tn]; exact x.h⟩
theorem tn_tn (T : Tb) : tn (tn T) = T := by unfold tn; rw [List.map_map]; exact List.map_id' _
theorem mem_tn {T : Tb} {z : W × W} (m : z ∈ T) : (z.2, z.1) ∈ tn T := List.mem_map.mpr ⟨z, m, rfl⟩
def Inv (a b : Row → Row) : Prop := (∀ q, b (a q) = q) ∧ ∀ q, a (b q) = q
theorem Inv.uniq {a b b' : Row → Row} (h : Inv a b) (h' : Inv a b') : b = b' := funext fun q => by
  have := h.1 (b' q)
  rw [h'.2] at this
  exact this
theorem tn_back {T : Tb} (x : Xc T) (q : Row) : act (tn T) (act T q) = q := by
  obtain ⟨z, m, h⟩ := cov_first x.h.de q
  rw [act_at x.h.an m h]
  unfold Img
  rw [act_at (xc_tn x).h.an (mem_tn m) (first_put z.2 _)]
  unfold Img
  show put z.1 (fun i => put z.2 _ (i + z.2.length)) = q
  rw [funext fun i => put_at z.2 _ i]
  exact put_back h
theorem inv_tn {T : Tb} (x : Xc T) : Inv (act T) (act (tn T)) := ⟨tn_back x, fun q => by have := tn_back (xc_tn x) q; rw [tn_tn] at this; exact this⟩
theorem act_perm {T T' : Tb} (x : Xc T) (p : T'.Perm T) : act T' = act T := act_eqv (x.perm p.symm) x (eqv_mem fun z => p.mem_iff)
/-! ### one behind another -/
open Classical in
noncomputable def gt (U : Tb) (b : W) : W := if h : ∃ u, u ∈ U ∧ u.1 <+: b then mv b (Classical.choose h) else b
theorem gt_at {U : Tb} (an : Anti (hds U)) {u : W × W} (m : u ∈ U) {b : W} (p : u.1 <+: b) : gt U b = mv b u := by
  have ex : ∃ u, u ∈ U ∧ u.1 <+: b := ⟨u, m, p⟩
  unfold gt
  rw [dif_pos ex]
  have sp := Classical.choose_spec ex
  rcases List.prefix_or_prefix_of_prefix sp.2 p with e | e
  · rw [hds_fun an sp.1 m e]
  · rw [← hds_fun an m sp.1 e]
theorem gt_put {U : Tb} (an : Anti (hds U)) {b : W} (h : ∃ u ∈ U, u.1 <+: b) (c : Row) : act U (put b c) = put (gt U b) c := by
  obtain ⟨u, m, p⟩ := h
  rw [act_put an m p, gt_at an m p]
theorem put_cmp {a b : W} {c d : Row} (e : put a c = put b d) : a <+: b ∨ b <+: a := first_pre (q := put a c) (first_put a c) (by rw [e]; exact first_put b d)
theorem cut_gt {U : Tb} (x : Xc U) {t : List W} (ct : Cut t) (h : ∀ b ∈ t, ∃ u ∈ U, u.1 <+: b) : Cut (t.map (gt U)) := by
  have key : ∀ {a b : W}, a ∈ t → b ∈ t → Ap a b → ¬ gt U a <+: gt U b := fun {a b} ha hb ap p => by
    obtain ⟨w, e⟩ := p
    have e1 : put (gt U b) (fun _ => false) = put (gt U a) (put w fun _ => false) := by rw [← e, put_app']
    rw [← gt_put x.h.an (h b hb), ← gt_put x.h.an (h a ha)] at e1
    have e2 := congrArg (act (tn U)) e1
    rw [tn_back x, tn_back x] at e2
    rcases put_cmp e2 with q | q
    · exact ap.2 q
    · exact ap.1 q
  constructor
  · show List.Pairwise Ap _
    rw [List.pairwise_map]
    have an : List.Pairwise Ap t := ct.an
    exact an.imp_of_mem fun {a b} ha hb ap => ⟨key ha hb ap, key hb ha ap.symm⟩
  · intro r
    obtain ⟨b, hb, ub⟩ := ct.de (act (tn U) r)
    refine ⟨gt U b, List.mem_map.mpr ⟨b, hb, rfl⟩, ?_⟩
    rw [un_first] at ub ⊢
    have e := congrArg (act U) (put_back ub)
    rw [(inv_tn x).2, gt_put x.h.an (h b hb)] at e
    rw [← e]
    exact first_put _ _
noncomputable def jn (R S : Tb) (t : List W) : Tb := t.map fun b => (gt (tn R) b, gt S b)
theorem hds_jn (R S : Tb) (t : List W) : hds (jn R S t) = t.map (gt (tn R)) := by unfold hds jn; rw [List.map_map]; rfl
theorem ots_jn (R S : Tb) (t : List W) : ots (jn R S t) = t.map (gt S) := by unfold ots jn; rw [List.map_map]; rfl
theorem xc_jn {R S : Tb} (xR : Xc R) (xS : Xc S) {t : List W} (ct : Cut t) (h1 : ∀ b ∈ t, ∃ u ∈ tn R, u.1 <+: b) (h2 : ∀ b ∈ t, ∃ u ∈ S, u.1 <+: b) : Xc (jn R S t) :=
  ⟨by rw [hds_jn]; exact cut_gt (xc_tn xR) ct h1, by rw [ots_jn]; exact cut_gt xS ct h2⟩
theorem act_jn {R S : Tb} (xR : Xc R) (xS : Xc S) {t : List W} (ct : Cut t) (h1 : ∀ b ∈ t, ∃ u ∈ tn R, u.1 <+: b) (h2 : ∀ b ∈ t, ∃ u ∈ S, u.1 <+: b) : act (jn R S t) = fun q => act S (act R q) := funext fun q => by
  obtain ⟨b, hb, ub⟩ := ct.de (act R q)
  rw [un_first] at ub
  have e := put_back ub
  have e1 := congrArg (act (tn R)) e
  rw [tn_back xR, gt_put (xc_tn xR).h.an (h1 b hb)] at e1
  have e2 := congrArg (act S) e
  rw [gt_put xS.h.an (h2 b hb)] at e2
  show act (jn R S t) q = act S (act R q)
  rw [← e2]
  have m : (gt (tn R) b, gt S b) ∈ jn R S t := List.mem_map.mpr ⟨b, hb, rfl⟩
  have f : firstN q (gt (tn R) b).length = gt (tn R) b := by rw [← e1]; exact first_put _ _
  rw [act_at (xc_jn xR xS ct h1 h2).h.an m f]
  unfold Img
  refine congrArg (put (gt S b)) (funext fun i => ?_)
  show q (i + (gt (tn R) b).length) = _
  exact (congrFun e1 _).symm.trans (put_at _ _ _)
/-- the places of what heads are below, in order -/
theorem mono_at {l : List W} (st : l.Pairwise lt) (an : Anti l) {i j : Nat} {a b x y : W} (hi : l[i]? = some a) (hj : l[j]? = some b) (pa : a <+: x) (pb : b <+: y) (h : lt x y) : i ≤ j := by
  refine Classical.byContradiction fun n => ?_
  have hji : j < i := by omega
  obtain ⟨i1, e1⟩ := List.getElem?_eq_some_iff.mp hi
  obtain ⟨j1, e2⟩ := List.getElem?_eq_some_iff.mp hj
  have l1 := List.pairwise_iff_getElem.mp st j i j1 i1 hji
  have a1 := List.pairwise_iff_getElem.mp (show List.Pairwise Ap l from an) j i j1 i1 hji
  rw [e1, e2] at l1 a1
  have nl : ∀ {c d : W}, c <+: d → ¬ lt d c := fun {c d} p q => by
    by_cases e : c = d
    · rw [e] at q; exact lt_irrefl _ q
    · exact lt_irrefl _ (lt_trans q (lt_pre p e))
  exact a1.1 (pre_between pb (fun q => lt_irrefl _ (lt_trans l1 q)) fun q => nl pa (lt_trans h q))
theorem nodup_le : ∀ {l m : List W}, l.Nodup → (∀ x ∈ l, x ∈ m) → l.length ≤ m.length
  | [], m, _, _ => Nat.zero_le _
  | x :: l, m, n, h => by
    obtain ⟨n1, n2⟩ := List.nodup_cons.mp n
    have hx := h x (.head _)
    have := nodup_le (m := m.erase x) n2 fun y hy => (List.mem_erase_of_ne (fun e : y = x => n1 (e ▸ hy))).mpr (h y (.tail _ hy))
    rw [List.length_erase_of_mem hx] at this
    have := List.length_pos_of_mem hx
    rw [List.length_cons]
    omega
theorem com_len {a b t : List W} (c : Com a b t) : t.length ≤ a.length + b.length := by
  rw [← List.length_append]
  exact nodup_le (nodup_lt c.st) fun x hx => ((c.me x).mp hx).1
end Hm

/-! part K14jn -/
set_option Elab.async false
set_option linter.all false
set_option maxRecDepth 100000
set_option maxHeartbeats 2000000
namespace Hs
open PySem PySem.Spec PyProof.Rows L2 Hm
abbrev sTur : Stmt := top 43
abbrev sJoi : Stmt := top 44
section
variable {X : Cx}
/-- a = b = value -/
def tAsg2 (te : TE) (g1 g2 : TG) : TS := fun D σ H => te σ H fun x H1 => g1 x σ H1 fun σ2 H2 => g2 x σ2 H2 D.nx
theorem ps_asg2 {t1 t2 e : Expr} {te : TE} {g1 g2 : TG} {pos : Pos} (he : PE X e te) (h1 : PG X t1 g1) (h2 : PG X t2 g2) (hs : swapsWithSole [t1, t2] e pos.line X.env = pure false := by rfl) (hw : swappedStores [t1, t2] e X.env = pure none := by rfl)
    (ha : (assignEach [t1, t2] X.env).map (·.2) = [assign t1 X.env, assign t2 X.env] := by rfl) : PS X (.Assign [t1, t2] e pos) (tAsg2 te g1 g2) := by
  intro pins s σ H D I h
  refine wpAny_Assign_stores (thn (he pins s σ H _ I h) fun v s1 ⟨x, H1, I1, r1, q1⟩ => ?_) hs hw
  rw [ha]
  refine wpAny_bind (wpAny_holding (thn (h1 pins s1 σ H1 x v _ I1 r1 q1) fun _ s2 ⟨σ2, H2, I2, q2⟩ => ?_))
  exact thn (h2 pins s2 σ2 H2 x v _ I2 r1 q2) fun _ s3 q => q
/-- a[i] of a list or a tuple -/
def rIxO (K : PySem.W.Frag) : R2 := fun x y H Q => rIxL K x y H Q ∨ rIxT K x y H Q
theorem ix_or : IxR X (rIxO X.K) := by
  intro value slice pins s σ H x y v u Q I rx ry h hs
  rcases h with h | h
  · exact ix_list value slice pins s σ H x y v u Q I rx ry h hs
  · exact ix_tup value slice pins s σ H x y v u Q I rx ry h hs
theorem ixO_at {K : PySem.W.Frag} {b : Bool} {H : Hp} {a : Addr} {xs : List V} {i : Int} {v : V} {Q : VK} (hq : SqB K b H a xs) (e : atI xs i = some v) (q : Q v H) : rIxO K (.ref a) (.int i) H Q := by
  cases b with
  | true => exact .inl ⟨a, xs, i, v, rfl, rfl, hq, e, q⟩
  | false => exact .inr ⟨a, xs, i, v, rfl, rfl, hq, e, q⟩
end
theorem ret_cb {r : List V → Hp → VK → Prop} {wi : TI} {g : TG} {tt : L2.TT} {te : TE} {vs : List Nat} {σ : L2.St} {H : Hp} {D : Ends} (h : tLc wi g tt te vs σ H fun v H1 => r [v] H1 D.rt) : tRet (tCB r (tCons (tLc wi g tt te vs) tNil)) D σ H := h
/-- for .. in f([..], [..]) -/
theorem for_call2 {K : PySem.W.Frag} {sp : Sp} {dvs : List V} {E : XK} {wi wi' : TI} {g g1 g' : TG} {tt tt' : L2.TT} {te te' : TE} {tb : TS} {D : Ends} {vs vs' : List Nat} {σ : L2.St} {H : Hp}
    (h : tLc wi g tt te vs σ H fun v H1 => tLc wi' g1 tt' te' vs' σ H1 fun u H2 => sp ([v, u] ++ dvs) H2 (fun x H3 => ∃ a, x = .ref a ∧ (∃ xs, SqL K H3 a xs) ∧ ∃ W : Nat → Nat → L2.St → Hp → Prop, (∃ m, W 0 m σ H3) ∧ ∀ i m σ H, W i m σ H →
      ((Itl K a).stop i H ∧ D.nx σ H) ∨ ((Itl K a).go i H ∧ ∃ N : L2.St → Hp → Prop, (∀ σ' H', N σ' H' → ∃ m', m' < m ∧ W (i + 1) m' σ' H') ∧ ∀ x H', (Itl K a).yld i H x H' → g' x σ H' fun σ2 H2 => tb { D with nx := N, ct := N, bk := D.nx } σ2 H2)) E) :
    tFor (iList K (tCall sp dvs E (tCons (tLc wi g tt te vs) (tCons (tLc wi' g1 tt' te' vs') tNil)))) g' tb D σ H := h
theorem at_hds {U : Tb} {j : Nat} {u : W × W} (h : U[j]? = some u) : (hds U)[j]? = some u.1 := by unfold hds; rw [List.getElem?_map, h]; rfl
/-- no place behind is less -/
def Bh (U : Tb) (l : Nat) (ts : List W) : Prop := ∀ b ∈ ts, ∀ (j : Nat) (u : W × W), U[j]? = some u → u.1 <+: b → l ≤ j
theorem bh_next {U : Tb} (sd : Sd U) (an : Anti (hds U)) {b : W} {ts : List W} (st : (b :: ts).Pairwise lt) {p : Nat} {u : W × W} (hp : U[p]? = some u) (pu : u.1 <+: b) : Bh U p ts := fun b' hb' j u' hj pj => mono_at sd an (at_hds hp) (at_hds hj) pu pj ((List.pairwise_cons.mp st).1 b' hb')
def spTur (K : PySem.W.Frag) : Sp := fun vs H Q _ => ∃ (a : Addr) (b : Bool) (S : Tb), vs = [.ref a] ∧ BT K b H a S ∧ Xc S ∧ S.length ≤ 1000 ∧ ∀ p H' U, H p = none → Same H H' → NT H' p U → U.Perm (tn S) → Sd U → Q (.ref p) H'
def spJoi (K : PySem.W.Frag) : Sp := fun vs H Q _ => ∃ (a c : Addr) (b d : Bool) (R S : Tb) (m n : Nat), vs = [.ref a, .ref c] ∧ BT K b H a R ∧ BT K d H c S ∧ Xc R ∧ Xc S ∧ Sd S ∧ R.length + S.length < 64 ∧ Sz m R ∧ Sz n S ∧ m + n ≤ 4000 ∧
  ∀ p H' F, H p = none → Same H H' → NT H' p F → FewA (fun q => act S (act R q)) F → F.length ≤ R.length + S.length → Sz (m + n) F → Q (.ref p) H'
section
variable {P : Program} {w : World} {K : PySem.W.Frag} {mg : Str → Option Value} {base : Heap}
abbrev NTu : List Str := ["rows", "head", "other"]
theorem scTu : FnScope NTu ["rows"] (defScope sTur) := ⟨rfl, rfl, rfl, by decide +kernel, rfl, by decide +kernel, by decide +kernel⟩

theorem ok_tur {f : Addr} {fd : FuncData} (F : Fun K "turned" "turned" sTur f fd) (T : Txt mg) : FnOk P w K mg base CX0 1 f fd ["rows"] (spTur K) := by
  refine F.ok scTu (fun vs H Q E h => ?_) (fun cdv A outer s H vs Q E hr h => ?_)
  · obtain ⟨a, b, T, rfl, _⟩ := h
    rfl
  · obtain ⟨a, b, S, rfl, ⟨ps, hq, hps⟩, xc, lT, k⟩ := h
    refine ⟨_, (pss_one (ps_ret (pe_callB cr_sortedT (by rfl) T.sorted b_sorted (pa_cons (pe_lc (own := [("head", 1), ("other", 2)]) (g := gTup K 2 (gCons (gName 1) (gCons (gName 2) gNil))) (by rfl) scTu.nd (pi_or (pi_list (pv 0)) (pi_tup (pv 0))) (blkOk_by (own := [("head", 1), ("other", 2)]) (N := NTu) (sc := defScope sTur) (by decide +kernel)) (fun _ _ _ _ _ => pg_tup rfl (pgs_cons (pg_name (i := 1) scTu.nd rfl (Or.inl rfl)) (pgs_cons (pg_name (i := 2) scTu.nd rfl (Or.inl rfl)) pgs_nil))) (fun _ _ _ _ _ => pts_nil) (fun _ _ _ _ _ => pe_tup (pa_cons (pv 2) (pa_cons (pv 1) pa_nil)))) pa_nil)))), ?_⟩
    refine ret_cb ?_
    refine lc_or (K := K) (b := b) (a := a) (xs := ps.map V.ref) rfl hq (fun D i H1 => ∃ qs : List Addr, Same H H1 ∧ H1 D = some (.lst (qs.map V.ref)) ∧ PTn H1 qs ((tn S).take i)) (fun D hD => ⟨[], Same.new hD, upd_same, .nil⟩) (fun D i H1 hD _ ⟨_, z, _⟩ => hq.same z) ?_ ?_
    · rintro D i x H1 hD hx ⟨qs, sm, hD1, hqs⟩
      rw [List.getElem?_map, Option.map_eq_some_iff] at hx
      obtain ⟨r, hr', rfl⟩ := hx
      obtain ⟨z, hz, sz⟩ := (PTs.keep (.of sm) hps).at i hr'
      refine ⟨r, _, rfl, sz, rfl, _, _, rfl, _, _, rfl, rfl, rfl, _, rfl, _, rfl, by show 2 ≤ sizeLine; decide, fun t ht => ?_⟩
      have st : Same H1 (upd H1 t (.tup [tv z.2, tv z.1])) := Same.new ht
      have ld := hqs.len
      rw [List.length_take] at ld
      have ltn : (tn S).length = S.length := by unfold tn; rw [List.length_map]
      have ez : (tn S)[i]? = some (z.2, z.1) := by unfold tn; rw [List.getElem?_map, hz]; rfl
      refine ⟨_, st _ _ hD1, ?_, qs ++ [t], fun c o e => ?_, by rw [upd_same, List.map_append]; rfl, ?_⟩
      · rw [List.length_map]; exact Nat.lt_of_lt_of_le (show qs.length < 1001 by omega) (by decide)
      · rw [upd_ne (ne_of_none e hD)]; exact st _ _ (sm _ _ e)
      · rw [List.take_add_one, ez]
        have kk : KpT (upd H1 t (.tup [tv z.2, tv z.1])) (upd (upd H1 t (.tup [tv z.2, tv z.1])) D (.lst (qs.map V.ref ++ [.ref t]))) := KpT.set (st _ _ hD1) (fun _ z => nomatch z) (fun _ _ z => nomatch z)
        exact (PTn.keep ((KpT.of st).trans kk) hqs).app (.cons (kk.t _ _ upd_same) .nil)
    rintro D H1 hD ⟨qs, sm, hD1, hqs⟩
    have lps := hps.len
    have ltn : (tn S).length = S.length := by unfold tn; rw [List.length_map]
    rw [List.length_map, lps, ← ltn, List.take_length] at hqs
    have lqs := hqs.len
    refine ⟨D, qs, keyP H1, true, rfl, SqL.of hD1, by omega, fun q hq' => ?_, fun qs' q pm so hq' => ?_⟩
    · obtain ⟨z, _, e⟩ := hqs.mem hq'
      exact ⟨_, _, _, e, rfl, keyP_at e, rfl⟩
    obtain ⟨S', hS', pS⟩ := hqs.perm pm
    have xc' : Xc S' := (xc_tn xc).perm pS.symm
    have sd : Sd S' := sd_of xc'.h.an (hS'.pair (S := fun p r => KeyLe (keyP H1 p) (keyP H1 r)) (fun p r y z e1 e2 le => by rw [keyP_at e1, keyP_at e2] at le; exact keyP_le le) so)
    have s2 := sm.trans (Same.new (o := .lst (qs'.map V.ref)) hq')
    exact k q _ S' (sm.free hq') s2 ⟨qs', upd_same, PTn.keep (.of (Same.new hq')) hS'⟩ pS sd
abbrev NJ : List Str := ["rows", "second", "first", "told", "left", "right", "between", "place", "head", "other"]
theorem scJ : FnScope NJ ["rows", "second"] (defScope sJoi) := ⟨rfl, rfl, rfl, by decide +kernel, rfl, by decide +kernel, by decide +kernel⟩





theorem ok_joi {f fT fC fM fR : Addr} {fd fdT fdC fdM fdR : FuncData} (F : Fun K "joined" "joined" sJoi f fd) (dT' : Def K mg "turned" sTur ["rows"] fT fdT) (dC : Def K mg "common" sCom ["one", "other"] fC fdC) (dM : Def K mg "moved" sMov ["head", "row"] fM fdM) (dR : Def K mg "fewest_rows" sFr ["rows"] fR fdR) (T : Txt mg) : FnOk P w K mg base CX0 2 f fd ["rows", "second"] (spJoi K) := by
  have GT : FnOk P w K mg base CX0 1 fT fdT ["rows"] (spTur K) := ok_tur dT'.fn T
  have GC : FnOk P w K mg base CX0 1 fC fdC ["one", "other"] spCom := ok_com dC.fn T
  have GM : FnOk P w K mg base CX0 1 fM fdM ["head", "row"] (spMov K) := ok_mov dM.fn T
  have GR : FnOk P w K mg base CX0 1 fR fdR ["rows"] (spFr K) := ok_fr dR.fn T
  refine F.ok scJ (fun vs H Q E h => ?_) (fun cdv A outer s H vs Q E hr h => ?_)
  · obtain ⟨a, c, b, d, R, S, m, n, rfl, _⟩ := h
    rfl
  · obtain ⟨a, c, b, d, R, S, m, n, rfl, btR, btS, xR, xS, sdS, l64, zR, zS, mn, k⟩ := h
    refine ⟨_, (pss_cons (ps_set (i := 2) scJ.nd rfl (Or.inl rfl) (pe_call GT hr rfl dT'.at_ dT'.fn.kp dT'.bi .nil pass0 (pa_cons (pv 0) pa_nil)))
        (pss_cons (ps_set (i := 3) scJ.nd rfl (Or.inl rfl) (pe_lst pa_nil))
        (pss_cons (ps_asg2 pe_int (pg_name (i := 4) scJ.nd rfl (Or.inl rfl)) (pg_name (i := 5) scJ.nd rfl (Or.inl rfl)))
        (pss_cons (ps_for PassesOwn.never rfl (pi_list (pe_call GC hr rfl dC.at_ dC.fn.kp dC.bi .nil pass0 (pa_cons (pe_lc (own := [("place", 7), ("head", 8)]) (g := gTup K 2 (gCons (gName 7) (gCons (gName 8) gNil))) (by rfl) scJ.nd (pi_list (pv 2)) (blkOk_by (own := [("place", 7), ("head", 8)]) (N := NJ) (sc := defScope sJoi) (by decide +kernel)) (fun _ _ _ _ _ => pg_tup rfl (pgs_cons (pg_name (i := 7) scJ.nd rfl (Or.inl rfl)) (pgs_cons (pg_name (i := 8) scJ.nd rfl (Or.inl rfl)) pgs_nil))) (fun _ _ _ _ _ => pts_nil) (fun _ _ _ _ _ => pv 7)) (pa_cons (pe_lc (own := [("place", 7), ("other", 9)]) (g := gTup K 2 (gCons (gName 7) (gCons (gName 9) gNil))) (by rfl) scJ.nd (pi_or (pi_list (pv 1)) (pi_tup (pv 1))) (blkOk_by (own := [("place", 7), ("other", 9)]) (N := NJ) (sc := defScope sJoi) (by decide +kernel)) (fun _ _ _ _ _ => pg_tup rfl (pgs_cons (pg_name (i := 7) scJ.nd rfl (Or.inl rfl)) (pgs_cons (pg_name (i := 9) scJ.nd rfl (Or.inl rfl)) pgs_nil))) (fun _ _ _ _ _ => pts_nil) (fun _ _ _ _ _ => pv 7)) pa_nil)))) (pg_name (i := 6) scJ.nd rfl (Or.inl rfl)) (pss_cons (ps_while PassesOwn.never (pt_not (pt_val (pe_m1 PySem.F.slot_str_startswith PySem.F.type_str_startswith mt_startswith (pv 6) (pe_ix (r := rIxT K) ix_tup (pe_ix (r := rIxL K) ix_list (pv 2) (pv 4) (fun _ _ => rfl)) pe_int (fun _ _ => rfl))))) (pss_one (ps_aug (i := 4) scJ.nd rfl (Or.inl rfl) pe_int ip_add)))
        (pss_cons (ps_while PassesOwn.never (pt_not (pt_val (pe_m1 PySem.F.slot_str_startswith PySem.F.type_str_startswith mt_startswith (pv 6) (pe_ix (r := rIxT K) ix_tup (pe_ix (r := rIxO K) ix_or (pv 1) (pv 5) (fun _ _ => rfl)) pe_int (fun _ _ => rfl))))) (pss_one (ps_aug (i := 5) scJ.nd rfl (Or.inl rfl) pe_int ip_add)))
        (pss_one (ps_expr (pe_bm PySem.F.plainAttrs_list PySem.F.slot_list_append PySem.F.type_list_append mt_append (pv 3) (pa_cons (pe_tup (pa_cons (pe_call GM hr rfl dM.at_ dM.fn.kp dM.bi .nil pass0 (pa_cons (pv 6) (pa_cons (pe_ix (r := rIxL K) ix_list (pv 2) (pv 4) (fun _ _ => rfl)) pa_nil))) (pa_cons (pe_call GM hr rfl dM.at_ dM.fn.kp dM.bi .nil pass0 (pa_cons (pv 6) (pa_cons (pe_ix (r := rIxO K) ix_or (pv 1) (pv 5) (fun _ _ => rfl)) pa_nil))) pa_nil))) pa_nil)))))))
        (pss_one (ps_ret (pe_call GR hr rfl dR.at_ dR.fn.kp dR.bi .nil pass0 (pa_cons (pv 3) pa_nil)))))))), ?_⟩
    have big : ∀ {m : Nat}, m ≤ 100000 → m ≤ sizeLine := fun h => Nat.le_trans h (by decide)
    refine ⟨_, rfl, a, b, R, rfl, btR, xR, by omega, fun p1 H1 U hp1 s1 nt1 pU sdU => ?_⟩
    have ltn : (tn R).length = R.length := by unfold tn; rw [List.length_map]
    have lU : U.length = R.length := by rw [pU.length_eq, ltn]
    have xU : Xc U := (xc_tn xR).perm pU.symm
    have zU : Sz m U := fun z hz => by
      obtain ⟨y, hy, rfl⟩ := List.mem_map.mp (pU.mem_iff.mp hz)
      exact ⟨(zR y hy).2, (zR y hy).1⟩
    refine ⟨by show 0 ≤ sizeLine; decide, fun p2 hp2 => ?_⟩
    have s2 : Same H1 (upd H1 p2 (.lst [])) := Same.new hp2
    have hp2' : (upd H1 p2 (.lst [])) p2 = some (.lst []) := upd_same
    have nt2 := nt1.same s2
    have bt2 := btS.same (s1.trans s2)
    generalize upd H1 p2 (.lst []) = H2 at s2 hp2' nt2 bt2
    dsimp only [gName]
    refine seq_gen (fun σ H9 => σ = [some (.ref a), some (.ref c), some (.ref p1), some (.ref p2), some (.int ((0 : Nat) : Int)), some (.int ((0 : Nat) : Int)), none, none, none, none] ∧ H9 = H2) (fun nx hn => hn _ _ ⟨rfl, rfl⟩) ?_
    rintro _ H9 ⟨rfl, e9⟩
    rw [e9]
    clear e9 H9
    refine seq_gen (fun σ H9 => ∃ (t : List W) (l r : Nat) (o6 : Option V) (tps : List Addr), σ = [some (.ref a), some (.ref c), some (.ref p1), some (.ref p2), some (.int (l : Int)), some (.int (r : Int)), o6, none, none, none] ∧ Same H H9 ∧ H9 p2 = some (.lst (tps.map V.ref)) ∧ PTn H9 tps (jn R S t) ∧ Com (hds U) (hds S) t) (fun nx hn => for_call2 ?_) ?_
    case refine_2 =>
      rintro σ H9 ⟨t, l, r, o6, tps, rfl, s9, h9, pn9, cm⟩
      have ct : Cut t := ⟨cm.anti, fun q => cm.den xU.h xS.h q⟩
      have up1 : ∀ b ∈ t, ∃ u ∈ tn R, u.1 <+: b := fun b hb => by
        obtain ⟨x, hx, p⟩ := cm.up xU.h (fun x hx => List.mem_append_left _ hx) hb
        obtain ⟨u, hu, rfl⟩ := List.mem_map.mp hx
        exact ⟨u, pU.mem_iff.mp hu, p⟩
      have up2 : ∀ b ∈ t, ∃ u ∈ S, u.1 <+: b := fun b hb => by
        obtain ⟨x, hx, p⟩ := cm.up xS.h (fun x hx => List.mem_append_right _ hx) hb
        obtain ⟨u, hu, rfl⟩ := List.mem_map.mp hx
        exact ⟨u, hu, p⟩
      have zt : ∀ b ∈ t, b.length ≤ max m n := fun b hb => by
        rcases List.mem_append.mp ((cm.me b).mp hb).1 with h | h
        · obtain ⟨u, hu, rfl⟩ := List.mem_map.mp h
          have := (zU u hu).1
          omega
        · obtain ⟨u, hu, rfl⟩ := List.mem_map.mp h
          have := (zS u hu).1
          omega
      have zj : Sz (m + n) (jn R S t) := fun z hz => by
        obtain ⟨b, hb, rfl⟩ := List.mem_map.mp hz
        obtain ⟨u, hu, pu⟩ := up1 b hb
        obtain ⟨v, hv, pv⟩ := up2 b hb
        have zu := zU u (pU.mem_iff.mpr hu)
        have zv := zS v hv
        -- a head is one of either
        have e1 : gt (tn R) b = mv b u := gt_at (xc_tn xR).h.an hu pu
        have e2 : gt S b = mv b v := gt_at xS.h.an hv pv
        show (gt (tn R) b).length ≤ _ ∧ (gt S b).length ≤ _
        rw [e1, e2]
        unfold mv
        rw [List.length_append, List.length_append, List.length_drop, List.length_drop]
        have p1 := pu.length_le
        have p2 := pv.length_le
        rcases List.mem_append.mp ((cm.me b).mp hb).1 with h | h
        · obtain ⟨u', hu', e⟩ := List.mem_map.mp h
          have z' := (zU u' hu').1
          have eq' : u' = u := by
            rw [← e] at pu
            exact (hds_fun xU.h.an (pU.mem_iff.mpr hu) hu' pu).symm
          rw [eq'] at e
          rw [← e]
          omega
        · obtain ⟨v', hv', e⟩ := List.mem_map.mp h
          have z' := (zS v' hv').1
          have eq' : v' = v := by
            rw [← e] at pv
            exact (hds_fun xS.h.an hv hv' pv).symm
          rw [eq'] at e
          rw [← e]
          omega
      have lj : (jn R S t).length = t.length := by unfold jn; rw [List.length_map]
      have lc := com_len cm
      have lh : (hds U).length = U.length := by unfold hds; rw [List.length_map]
      have lh2 : (hds S).length = S.length := by unfold hds; rw [List.length_map]
      have xj := xc_jn xR xS ct up1 up2
      refine ⟨_, rfl, p2, true, jn R S t, rfl, ⟨tps, SqL.of h9, PTn.s pn9⟩, xj, by omega, zj.mono (by omega), fun p H' F hp s' ntF fw lF zF => ?_⟩
      refine k p H' F (s9.free hp) (s9.trans s') ntF ?_ (by omega) (few_sz fw xj.h.de zj)
      have := fw.a xj
      rw [act_jn xR xS ct up1 up2] at this
      exact this
    -- the places of both
    obtain ⟨us, eu, pu⟩ := id nt2
    have lus := pu.len
    refine ⟨_, rfl, p1, rfl, ⟨_, SqL.of eu⟩, fun D1 hD1 => ?_⟩
    refine lc_list (K := K) (a := p1) (xs := us.map V.ref) (fun i H3 => Same H2 H3 ∧ H3 D1 = some (.lst (tvs ((hds U).take i)))) ⟨Same.new hD1, upd_same⟩ (fun i H3 _ z => SqL.of (z.1 _ _ eu)) ?_ ?_
    · rintro i x H3 hx ⟨s3, h3⟩
      rw [List.getElem?_map, Option.map_eq_some_iff] at hx
      obtain ⟨q, hq, rfl⟩ := hx
      obtain ⟨z, hz, ez⟩ := (PTn.keep (.of s3) pu).at i hq
      have hi := (List.getElem?_eq_some_iff.mp hz).1
      refine ⟨q, _, rfl, SqT.of ez, rfl, _, _, rfl, _, _, rfl, rfl, rfl, _, rfl, _, h3, ?_, fun c o e => ?_, ?_⟩
      · rw [len_tvs, List.length_take]; exact Nat.lt_of_le_of_lt (Nat.min_le_left _ _) (small1000 (by omega))
      · rw [upd_ne (ne_of_none e hD1)]; exact s3 _ _ e
      · rw [upd_same, List.take_add_one, at_hds hz]
        unfold tvs
        rw [List.map_append]
        rfl
    rintro H3 ⟨s3, hD13⟩
    have lhU : (hds U).length = U.length := by unfold hds; rw [List.length_map]
    have lhS : (hds S).length = S.length := by unfold hds; rw [List.length_map]
    rw [List.length_map, lus, ← lhU, List.take_length] at hD13
    obtain ⟨ss, es, pss'⟩ := bt2.same s3
    have lss := pss'.len
    refine lc_or (K := K) (b := d) (a := c) (xs := ss.map V.ref) rfl es (fun D2 i H4 => Same H3 H4 ∧ H4 D2 = some (.lst (tvs ((hds S).take i)))) (fun D2 hD2 => ⟨Same.new hD2, upd_same⟩) (fun D2 i H4 hD2 _ z => es.same z.1) ?_ ?_
    · rintro D2 i x H4 hD2 hx ⟨s4, h4⟩
      rw [List.getElem?_map, Option.map_eq_some_iff] at hx
      obtain ⟨q, hq, rfl⟩ := hx
      obtain ⟨z, hz, ez⟩ := (PTs.keep (.of s4) pss').at i hq
      have hi := (List.getElem?_eq_some_iff.mp hz).1
      refine ⟨q, _, rfl, ez, rfl, _, _, rfl, _, _, rfl, rfl, rfl, _, rfl, _, h4, ?_, fun c o e => ?_, ?_⟩
      · rw [len_tvs, List.length_take]; exact Nat.lt_of_le_of_lt (Nat.min_le_left _ _) (small1000 (by omega))
      · rw [upd_ne (ne_of_none e hD2)]; exact s4 _ _ e
      · rw [upd_same, List.take_add_one, at_hds hz]
        unfold tvs
        rw [List.map_append]
        rfl
    rintro D2 H4 hD2 ⟨s4, hD24⟩
    rw [List.length_map, lss, ← lhS, List.take_length] at hD24
    refine ⟨D1, D2, hds U, hds S, rfl, s4 _ _ hD13, hD24, by omega, fun cq H5 t hcq s5 hcq5 cm lt' => ?_⟩
    have ct : Cut t := ⟨cm.anti, fun q => cm.den xU.h xS.h q⟩
    have up1 : ∀ b ∈ t, ∃ (j : Nat) (u : W × W), U[j]? = some u ∧ u.1 <+: b := fun b hb => by
      obtain ⟨x, hx, p⟩ := cm.up xU.h (fun x hx => List.mem_append_left _ hx) hb
      obtain ⟨u, hu, rfl⟩ := List.mem_map.mp hx
      obtain ⟨j, hj⟩ := List.getElem?_of_mem hu
      exact ⟨j, u, hj, p⟩
    have up2 : ∀ b ∈ t, ∃ (j : Nat) (u : W × W), S[j]? = some u ∧ u.1 <+: b := fun b hb => by
      obtain ⟨x, hx, p⟩ := cm.up xS.h (fun x hx => List.mem_append_right _ hx) hb
      obtain ⟨u, hu, rfl⟩ := List.mem_map.mp hx
      obtain ⟨j, hj⟩ := List.getElem?_of_mem hu
      exact ⟨j, u, hj, p⟩
    have zt : ∀ b ∈ t, b.length ≤ 4000 := fun b hb => by
      rcases List.mem_append.mp ((cm.me b).mp hb).1 with h | h
      · obtain ⟨u, hu, rfl⟩ := List.mem_map.mp h
        have := (zU u hu).1
        omega
      · obtain ⟨u, hu, rfl⟩ := List.mem_map.mp h
        have := (zS u hu).1
        omega
    have s25 := (s3.trans s4).trans s5
    have np2 : cq ≠ p2 := (ne_of_none ((s3.trans s4) _ _ hp2') hcq).symm
    refine ⟨cq, rfl, ⟨_, SqL.of hcq5⟩, for_list (K := K) (a := cq) (xs := tvs t) (fun i σ H6 => ∃ (l r : Nat) (o6 : Option V) (tps : List Addr), σ = [some (.ref a), some (.ref c), some (.ref p1), some (.ref p2), some (.int (l : Int)), some (.int (r : Int)), o6, none, none, none] ∧ Same H1 H6 ∧ H6 cq = some (.lst (tvs t)) ∧ H6 p2 = some (.lst (tps.map V.ref)) ∧ PTn H6 tps ((jn R S t).take i) ∧ Bh U l (t.drop i) ∧ Bh S r (t.drop i)) ?_ ?_ ?_ ?_⟩
    · exact ⟨0, 0, none, [], rfl, s2.trans s25, hcq5, s25 _ _ hp2', .nil, fun b _ j u _ _ => Nat.zero_le _, fun b _ j u _ _ => Nat.zero_le _⟩
    · rintro i σ H6 _ ⟨l, r, o6, tps, _, _, h, _⟩
      exact SqL.of h
    · rintro i x σ H6 hx ⟨l, r, o6, tps, rfl, s6, hq6, h6, pn6, bl, br⟩
      obtain ⟨bt, hbt, rfl⟩ := tvs_at hx
      have hmem := List.mem_of_getElem? hbt
      have hi : i < t.length := (List.getElem?_eq_some_iff.mp hbt).1
      have ed : t.drop i = bt :: t.drop (i + 1) := by
        rw [← List.getElem_cons_drop hi]
        rw [List.getElem?_eq_getElem hi] at hbt
        rw [Option.some.inj hbt]
      rw [ed] at bl br
      have st : (bt :: t.drop (i + 1)).Pairwise lt := by
        rw [← ed]
        exact cm.st.sublist (List.drop_sublist _ _)
      obtain ⟨p, u, hp, pu'⟩ := up1 bt hmem
      obtain ⟨p', v, hp', pv'⟩ := up2 bt hmem
      have lp := bl bt (.head _) p u hp pu'
      have lp' := br bt (.head _) p' v hp' pv'
      have zb := zt bt hmem
      have nt6 := nt1.same s6
      have bt6 := btS.same (s1.trans s6)
      obtain ⟨us, eu, pu⟩ := id nt6
      obtain ⟨ss, es, pss'⟩ := id bt6
      have lus := pu.len
      have lss := pss'.len
      dsimp only [gName]
      refine seq_gen (fun σ H7 => σ = [some (.ref a), some (.ref c), some (.ref p1), some (.ref p2), some (.int (p : Int)), some (.int (r : Int)), some (tv bt), none, none, none] ∧ H7 = H6) (fun nx hn => ?_) ?_
      · refine ⟨fun m σ H7 => ∃ l : Nat, m = p - l ∧ l ≤ p ∧ σ = [some (.ref a), some (.ref c), some (.ref p1), some (.ref p2), some (.int (l : Int)), some (.int (r : Int)), some (tv bt), none, none, none] ∧ H7 = H6, ⟨_, l, rfl, lp, rfl, rfl⟩, ?_⟩
        rintro m' σ H7 ⟨l, rfl, hl, rfl, rfl⟩
        have hpl := (List.getElem?_eq_some_iff.mp hp).1
        have hlU : l < us.length := by omega
        obtain ⟨y, hy, ey⟩ := pu.at l (List.getElem?_eq_getElem hlU)
        have a1 : atI (us.map V.ref) (l : Int) = some (.ref us[l]) := atI_nat (by rw [List.getElem?_map, List.getElem?_eq_getElem hlU]; rfl)
        refine ⟨_, rfl, ⟨_, rfl⟩, _, rfl, _, rfl, p1, _, _, _, rfl, rfl, SqL.of eu, a1, _, _, _, _, rfl, rfl, SqT.of ey, rfl, _, _, rfl, rfl, _, rfl, ?_⟩
        rw [starts_txd]
        by_cases py : y.1 <+: bt
        · rw [decide_eq_true py]
          have elp : l = p := by
            have e : y = u := by
              rcases List.prefix_or_prefix_of_prefix py pu' with q | q
              · exact hds_fun xU.h.an (List.mem_of_getElem? hy) (List.mem_of_getElem? hp) q
              · exact (hds_fun xU.h.an (List.mem_of_getElem? hp) (List.mem_of_getElem? hy) q).symm
            rw [e] at hy
            have g1 := at_hds hy
            have g2 := at_hds hp
            exact (List.getElem?_inj (List.getElem?_eq_some_iff.mp g1).1 xU.h.an.nodup).mp (g1.trans g2.symm)
          rw [elp]
          exact iteF (hn _ _ ⟨rfl, rfl⟩)
        · rw [decide_eq_false py]
          have hlp : l < p := by
            refine Nat.lt_of_le_of_ne hl fun e => ?_
            rw [e, hp] at hy
            cases hy
            exact py pu'
          refine iteT ⟨fun σ' H' => σ' = [some (.ref a), some (.ref c), some (.ref p1), some (.ref p2), some (.int ((l + 1 : Nat) : Int)), some (.int (r : Int)), some (tv bt), none, none, none] ∧ H' = H7, fun σ' H' e => ⟨p - (l + 1), by omega, l + 1, rfl, by omega, e.1, e.2⟩, ?_⟩
          refine ⟨_, rfl, _, _, rfl, rfl, ?_, rfl⟩
          rw [Int.natCast_add]
          rfl
      rintro σ H7 ⟨rfl, e7⟩
      rw [e7]
      clear e7 H7
      refine seq_gen (fun σ H7 => σ = [some (.ref a), some (.ref c), some (.ref p1), some (.ref p2), some (.int (p : Int)), some (.int (p' : Int)), some (tv bt), none, none, none] ∧ H7 = H6) (fun nx hn => ?_) ?_
      · refine ⟨fun m σ H7 => ∃ l : Nat, m = p' - l ∧ l ≤ p' ∧ σ = [some (.ref a), some (.ref c), some (.ref p1), some (.ref p2), some (.int (p : Int)), some (.int (l : Int)), some (tv bt), none, none, none] ∧ H7 = H6, ⟨_, r, rfl, lp', rfl, rfl⟩, ?_⟩
        rintro m' σ H7 ⟨l, rfl, hl, rfl, e7⟩
        rw [e7]
        clear e7 H7
        have hpl := (List.getElem?_eq_some_iff.mp hp').1
        have hlU : l < ss.length := by omega
        obtain ⟨y, hy, ey⟩ := pss'.at l (List.getElem?_eq_getElem hlU)
        have a1 : atI (ss.map V.ref) (l : Int) = some (.ref ss[l]) := atI_nat (by rw [List.getElem?_map, List.getElem?_eq_getElem hlU]; rfl)
        refine ⟨_, rfl, ⟨_, rfl⟩, _, rfl, _, rfl, ixO_at es a1 ?_⟩
        refine ⟨_, _, _, _, rfl, rfl, ey, rfl, _, _, rfl, rfl, _, rfl, ?_⟩
        rw [starts_txd]
        by_cases py : y.1 <+: bt
        · rw [decide_eq_true py]
          have elp : l = p' := by
            have e : y = v := by
              rcases List.prefix_or_prefix_of_prefix py pv' with q | q
              · exact hds_fun xS.h.an (List.mem_of_getElem? hy) (List.mem_of_getElem? hp') q
              · exact (hds_fun xS.h.an (List.mem_of_getElem? hp') (List.mem_of_getElem? hy) q).symm
            rw [e] at hy
            have g1 := at_hds hy
            have g2 := at_hds hp'
            exact (List.getElem?_inj (List.getElem?_eq_some_iff.mp g1).1 xS.h.an.nodup).mp (g1.trans g2.symm)
          rw [elp]
          exact iteF (hn _ _ ⟨rfl, rfl⟩)
        · rw [decide_eq_false py]
          have hlp : l < p' := by
            refine Nat.lt_of_le_of_ne hl fun e => ?_
            rw [e, hp'] at hy
            cases hy
            exact py pv'
          refine iteT ⟨fun σ' H' => σ' = [some (.ref a), some (.ref c), some (.ref p1), some (.ref p2), some (.int (p : Int)), some (.int ((l + 1 : Nat) : Int)), some (tv bt), none, none, none] ∧ H' = H6, fun σ' H' e => ⟨p' - (l + 1), by omega, l + 1, rfl, by omega, e.1, e.2⟩, ?_⟩
          refine ⟨_, rfl, _, _, rfl, rfl, ?_, rfl⟩
          rw [Int.natCast_add]
          rfl
      rintro σ H7 ⟨rfl, e7⟩
      rw [e7]
      clear e7 H7
      have hpU : p < us.length := by have := (List.getElem?_eq_some_iff.mp hp).1; omega
      have hpS : p' < ss.length := by have := (List.getElem?_eq_some_iff.mp hp').1; omega
      obtain ⟨u', hu', eu'⟩ := pu.at p (List.getElem?_eq_getElem hpU)
      obtain ⟨v', hv', ev'⟩ := pss'.at p' (List.getElem?_eq_getElem hpS)
      rw [hp] at hu'
      cases hu'
      rw [hp'] at hv'
      cases hv'
      have a1 : atI (us.map V.ref) (p : Int) = some (.ref us[p]) := atI_nat (by rw [List.getElem?_map, List.getElem?_eq_getElem hpU]; rfl)
      have a2 : atI (ss.map V.ref) (p' : Int) = some (.ref ss[p']) := atI_nat (by rw [List.getElem?_map, List.getElem?_eq_getElem hpS]; rfl)
      have zu := zU u (List.mem_of_getElem? hp)
      have zv := zS v (List.mem_of_getElem? hp')
      have g1 : gt (tn R) bt = u.2 ++ bt.drop u.1.length := gt_at (xc_tn xR).h.an (pU.mem_iff.mp (List.mem_of_getElem? hp)) pu'
      have g2 : gt S bt = v.2 ++ bt.drop v.1.length := gt_at xS.h.an (List.mem_of_getElem? hp') pv'
      refine ⟨_, rfl, .inl ⟨rfl, _, SqL.of h6⟩, _, rfl, _, rfl, _, rfl, p1, _, _, _, rfl, rfl, SqL.of eu, a1, bt, us[p], u, rfl, SqT.of eu', by omega, by omega, by omega, _, rfl, _, rfl, _, rfl, ixO_at es a2 ?_⟩
      refine ⟨bt, ss[p'], v, rfl, ev', by omega, by omega, by omega, by show 2 ≤ sizeLine; decide, fun tp htp => ?_⟩
      have s7 : Same H6 (upd H6 tp (.tup [tv (u.2 ++ bt.drop u.1.length), tv (v.2 ++ bt.drop v.1.length)])) := Same.new htp
      have lj := pn6.len
      rw [List.length_take] at lj
      refine ⟨p2, _, _, rfl, rfl, s7 _ _ h6, by rw [List.length_map]; exact small1000 (by omega), ?_⟩
      have kp : KpT H6 (upd (upd H6 tp (.tup [tv (u.2 ++ bt.drop u.1.length), tv (v.2 ++ bt.drop v.1.length)])) p2 (.lst (tps.map V.ref ++ [.ref tp]))) := (KpT.of s7).trans (KpT.set (s7 _ _ h6) (fun _ z => nomatch z) (fun _ _ z => nomatch z))
      refine ⟨p, p', _, tps ++ [tp], rfl, fun x o e => by rw [upd_ne (ne_of_none e hp2)]; exact s7 _ _ (s6 _ _ e), by rw [upd_ne np2]; exact s7 _ _ hq6, by rw [upd_same, List.map_append]; rfl, ?_, bh_next sdU xU.h.an st hp pu', bh_next sdS xS.h.an st hp' pv'⟩
      have ej : (jn R S t)[i]? = some (gt (tn R) bt, gt S bt) := by unfold jn; rw [List.getElem?_map, hbt]; rfl
      rw [List.take_add_one, ej]
      refine (PTn.keep kp pn6).app (.cons ?_ .nil)
      show (upd _ p2 _) tp = _
      rw [upd_ne (ne_of_none h6 htp).symm, upd_same, g1, g2]
    · rintro σ H6 ⟨l, r, o6, tps, rfl, s6, hq6, h6, pn6, bl, br⟩
      have lj : (jn R S t).length = t.length := by unfold jn; rw [List.length_map]
      rw [len_tvs, ← lj, List.take_length] at pn6
      exact hn _ _ ⟨t, l, r, o6, tps, rfl, s1.trans s6, h6, pn6, cm⟩
end
end Hs

/-! part K14th -/
set_option Elab.async false
set_option linter.all false
set_option maxRecDepth 100000
set_option maxHeartbeats 2000000
namespace Hs
open PySem L2 Hm
abbrev sSwo : Stmt := top 58
theorem few_one {F : Tb} (f : Few [([], [])] F) : F = [([], [])] := by
  have g : Few [([], [])] [([], [])] := ⟨⟨⟨List.pairwise_singleton _ _, fun r => ⟨[], .head _, trivial⟩⟩, ⟨List.pairwise_singleton _ _, fun r => ⟨[], .head _, trivial⟩⟩⟩, fun t s ⟨h, _⟩ => (by have := congrArg Prod.fst (List.mem_singleton.mp h); simp at this), List.pairwise_singleton _ _, Eqv.refl _⟩
  exact f.uniq g (Eqv.refl _)
theorem xc_one : Xc [([], [])] := ⟨⟨List.pairwise_singleton _ _, fun r => ⟨[], .head _, trivial⟩⟩, ⟨List.pairwise_singleton _ _, fun r => ⟨[], .head _, trivial⟩⟩⟩
theorem act_one : act [([], [])] = fun q => q := funext fun q => by
  rw [act_at xc_one.h.an (List.mem_singleton.mpr rfl) (show firstN q 0 = [] from rfl)]
  rfl
theorem sz_one {n : Nat} : Sz n [([], [])] := fun z hz => by rw [List.mem_singleton.mp hz]; exact ⟨Nat.zero_le _, Nat.zero_le _⟩
theorem sfl_put (t p : Addr) : putF "table" (.ref p) (sfl t) = sfl p := by
  unfold sfl
  rfl
def spSwo (K : PySem.W.Frag) (C : Addr) : Sp := fun vs H Q _ => ∃ (a : Addr) (b : Bool) (T : Tb), vs = [.ref a] ∧ BT K b H a T ∧ Xc T ∧ T.length ≤ 64 ∧ Sz 10000 T ∧ ∀ x H' F, H x = none → Same H H' → SwAt K C H' x F → Few T F → F.length ≤ T.length → Q (.ref x) H'
section
variable {P : Program} {w : World} {K : PySem.W.Frag} {mg : Str → Option Value} {base : Heap}
abbrev NSw : List Str := ["rows", "swap"]
theorem scSw : FnScope NSw ["rows"] (defScope sSwo) := ⟨rfl, rfl, rfl, by decide +kernel, rfl, by decide +kernel, by decide +kernel⟩

theorem ok_swo {f fIn fK C t0 : Addr} {fd fdIn fdK : FuncData} (F : Fun K "swap_of" "swap_of" sSwo f fd) (M : Mk K C fIn) (bI0 : Binds K fdIn ["self", "rows"] [.ref t0]) (hT0 : ∀ H, BT K false H t0 [([], [])]) (GI : FnOk P w K mg base CX0 6 fIn fdIn ["self", "rows"] (spSin K C))
    (dK : Def K mg "kept_rows" sKr ["rows"] fK fdK) (GK : FnOk P w K mg base CX0 2 fK fdK ["rows"] (spKr K)) (SC : SwC K mg C) : FnOk P w K mg base CX0 8 f fd ["rows"] (spSwo K C) := by
  refine F.ok scSw (fun vs H Q E h => ?_) (fun cdv A outer s H vs Q E hr h => ?_)
  · obtain ⟨a, b, T, rfl, _⟩ := h
    rfl
  · obtain ⟨a, b, S, rfl, bt, xc, lS, zS, k⟩ := h
    have hr2 : Room 2 _ := hr.mono (by decide)
    refine ⟨_, (pss_cons (ps_set (i := 1) scSw.nd rfl (Or.inl rfl) (pe_make0 M GI hr rfl SC.mgC bI0 (.cons rfl .nil : Vals [.ref t0] [.ref t0]) pass0))
        (pss_cons (ps_fld (pv 1) (pe_call GK hr2 rfl dK.at_ dK.fn.kp dK.bi .nil pass0 (pa_cons (pv 0) pa_nil)) rfl)
        (pss_one (ps_ret (pv 1))))), ?_⟩
    refine fun x dx hx hd nd => mk_sw (hT0 _) xc_one (by decide) sz_one hx hd fun H1 F1 s1 sw1 _ _ _ => ⟨rfl, ?_⟩
    obtain ⟨dx1, t1, hx1, tn1⟩ := sw1
    refine ⟨_, rfl, a, b, S, rfl, bt.same s1, xc, lS, zS, fun p H2 F hp s2 tt fw lf zf => ?_⟩
    have hx2 := s2 _ _ hx1
    refine ⟨_, rfl, x, C, dx1, _, rfl, hx2, SC.cl, SC.nt, by show 1 < 1000; decide, ?_⟩
    rw [sfl_put]
    refine ⟨_, rfl, k x _ F hx (fun c o e => ?_) ⟨dx1, p, upd_same, tt.kp (KpT.set hx2 (fun _ z => nomatch z) (fun _ _ z => nomatch z))⟩ fw lf⟩
    rw [upd_ne (ne_of_none e hx)]
    exact s2 _ _ (s1 _ _ e)
end
end Hs

/-! part Hw -/
namespace Hm
/-! ### powers -/
def pw (a : Row → Row) : Nat → Row → Row
  | 0, q => q
  | n + 1, q => a (pw a n q)
theorem pw_add (a : Row → Row) (n : Nat) : ∀ (m : Nat) (q : Row), pw a (m + n) q = pw a m (pw a n q)
  | 0, q => by rw [Nat.zero_add]; rfl
  | m + 1, q => by rw [show m + 1 + n = (m + n) + 1 by omega]; show a _ = a _; rw [pw_add a n m q]
def zp (a b : Row → Row) (z : Int) : Row → Row := if 0 ≤ z then pw a z.toNat else pw b (-z).toNat
/-! ### within a head -/
/-- the heads beside one -/
def bes : W → List W
  | [] => []
  | b :: h => [!b] :: (bes h).map (b :: ·)
theorem bes_len : ∀ h : W, (bes h).length = h.length
  | [] => rfl
  | b :: h => by
    show ([!b] :: (bes h).map (b :: ·)).length = _
    rw [List.length_cons, List.length_map, bes_len h, List.length_cons]
theorem bes_at : ∀ {h : W} {i : Nat} {b : Bool}, h[i]? = some b → (bes h)[i]? = some (h.take i ++ [!b])
  | c :: h, 0, b, e => by cases e; rfl
  | c :: h, i + 1, b, e => by
    have e : h[i]? = some b := e
    show ((bes h).map (c :: ·))[i]? = _
    rw [List.getElem?_map, bes_at e]
    rfl
theorem bes_sz : ∀ {h x : W}, x ∈ bes h → x.length ≤ h.length
  | b :: h, x, m => by
    rcases List.mem_cons.mp m with rfl | m
    · exact Nat.succ_le_succ (Nat.zero_le _)
    · obtain ⟨y, hy, rfl⟩ := List.mem_map.mp m
      exact Nat.succ_le_succ (bes_sz hy)
theorem cut_half {l : List W} (c : Cut l) (b : Bool) : Cut ([!b] :: l.map (b :: ·)) := by
  constructor
  · refine List.pairwise_cons.mpr ⟨fun y hy => ?_, ?_⟩
    · obtain ⟨x, _, rfl⟩ := List.mem_map.mp hy
      have ne : (!b) ≠ b := by cases b <;> decide
      exact ⟨fun p => ne (List.cons_prefix_cons.mp p).1, fun p => ne (List.cons_prefix_cons.mp p).1.symm⟩
    · rw [List.pairwise_map]
      have an : List.Pairwise Ap l := c.an
      exact an.imp fun ap => ⟨fun p => ap.1 (List.cons_prefix_cons.mp p).2, fun p => ap.2 (List.cons_prefix_cons.mp p).2⟩
  · intro r
    by_cases e : r 0 = b
    · obtain ⟨x, hx, u⟩ := c.de fun n => r (n + 1)
      exact ⟨b :: x, .tail _ (List.mem_map.mpr ⟨x, hx, rfl⟩), e, u⟩
    · refine ⟨[!b], .head _, ?_, trivial⟩
      cases b <;> cases h : r 0 <;> simp_all
theorem cut_in : ∀ (h : W) {l : List W}, Cut l → Cut (l.map (h ++ ·) ++ bes h)
  | [], l, c => by
    have e : l.map (([] : W) ++ ·) ++ bes [] = l := by
      show l.map (fun x => x) ++ [] = l
      rw [List.append_nil]; exact List.map_id' l
    rw [e]; exact c
  | b :: h, l, c => by
    have ih := cut_half (cut_in h c) b
    refine ih.perm ?_
    have e : l.map ((b :: h) ++ ·) ++ bes (b :: h) = (l.map (h ++ ·)).map (b :: ·) ++ [!b] :: (bes h).map (b :: ·) := by
      rw [List.map_map]; rfl
    rw [e, List.map_append]
    exact List.perm_middle.symm
def wi (h : W) (T : Tb) : Tb := (T.map fun z => (h ++ z.1, h ++ z.2)) ++ (bes h).map fun a => (a, a)
end Hm

/-! part K14pwo -/
set_option Elab.async false
set_option linter.all false
set_option maxRecDepth 100000
set_option maxHeartbeats 2000000
namespace Hs
open PySem L2 Hm
abbrev sRep2 : Stmt := top 47
abbrev sPow : Stmt := inClass sSwap 6
theorem b_abs : bootBuiltins "abs" = some (.builtin "abs") := by decide +kernel
def spRpt (K : PySem.W.Frag) : Sp := fun vs H Q _ => ∃ (a : Addr) (b : Bool) (n : Nat) (R : Tb), vs = [.ref a, .int (n : Int)] ∧ BT K b H a R ∧ Xc R ∧ Sd R ∧ n ≤ 6 ∧ R.length ≤ 6 ∧ Sz 6 R ∧
  ∀ p H' T, H p = none → Same H H' → LT K H' p T → Xc T → act T = pw (act R) n → T.length ≤ 1 + 6 * n → Sz (6 * n) T → Q (.ref p) H'
def spPow (K : PySem.W.Frag) (C : Addr) : Sp := fun vs H Q _ => ∃ (x : Addr) (R : Tb) (α ι : Row → Row) (z : Int), vs = [.ref x, .int z] ∧ SwAt K C H x R ∧ FewA α R ∧ Inv α ι ∧ R.length ≤ 6 ∧ Sz 6 R ∧ -6 ≤ z ∧ z ≤ 6 ∧
  ∀ y H' F, H y = none → Same H H' → SwAt K C H' y F → FewA (zp α ι z) F → F.length ≤ 1 + 6 * z.natAbs → Sz (6 * z.natAbs) F → Q (.ref y) H'
section
variable {P : Program} {w : World} {K : PySem.W.Frag} {mg : Str → Option Value} {base : Heap}
abbrev NRp : List Str := ["rows", "many", "told", "doubled"]
theorem scRp2 : FnScope NRp ["rows", "many"] (defScope sRep2) := ⟨rfl, rfl, rfl, by decide +kernel, rfl, by decide +kernel, by decide +kernel⟩


theorem ok_rpt {f fJ : Addr} {fd fdJ : FuncData} (F : Fun K "repeated" "repeated" sRep2 f fd) (dJ : Def K mg "joined" sJoi ["rows", "second"] fJ fdJ) (GJ : FnOk P w K mg base CX0 2 fJ fdJ ["rows", "second"] (spJoi K)) : FnOk P w K mg base CX0 3 f fd ["rows", "many"] (spRpt K) := by
  refine F.ok scRp2 (fun vs H Q E h => ?_) (fun cdv A outer s H vs Q E hr h => ?_)
  · obtain ⟨a, b, n, R, rfl, _⟩ := h
    rfl
  · obtain ⟨a, b, n, R, rfl, bt, xR, sdR, n6, lR, zR, k⟩ := h
    refine ⟨_, (pss_cons (ps_set (i := 2) scRp2.nd rfl (Or.inl rfl) (pe_lst (pa_cons (pe_tup (pa_cons pe_str (pa_cons pe_str pa_nil))) pa_nil)))
        (pss_cons (ps_set (i := 3) scRp2.nd rfl (Or.inl rfl) (pv 0))
        (pss_cons (ps_while PassesOwn.never (pt_cmpR op_gt (pv 1) pe_int (nomark _)) (pss_cons (ps_if (pt_truth (pe_op op_and (pv 1) pe_int) (by intro _; rfl)) (pss_one (ps_set (i := 2) scRp2.nd rfl (Or.inl rfl) (pe_call GJ hr rfl dJ.at_ dJ.fn.kp dJ.bi .nil pass0 (pa_cons (pv 2) (pa_cons (pv 3) pa_nil))))) pss_nil)
        (pss_cons (ps_aug (i := 1) scRp2.nd rfl (Or.inl rfl) pe_int iop_fdiv)
        (pss_one (ps_if (pt_cmpR op_gt (pv 1) pe_int (nomark _)) (pss_one (ps_set (i := 3) scRp2.nd rfl (Or.inl rfl) (pe_call GJ hr rfl dJ.at_ dJ.fn.kp dJ.bi .nil pass0 (pa_cons (pv 3) (pa_cons (pv 3) pa_nil))))) pss_nil)))))
        (pss_one (ps_ret (pv 2)))))), ?_⟩
    refine ⟨by show 2 ≤ sizeLine; decide, fun t ht => ?_⟩
    refine ⟨by show 1 ≤ sizeLine; decide, fun p hp => ?_⟩
    have et : (Str.ofString "") = tx [] := tx_nil.symm
    rw [et] at hp ⊢
    have s1 : Same H (upd H t (.tup [tv [], tv []])) := Same.new ht
    have s2 : Same (upd H t (.tup [tv [], tv []])) (upd (upd H t (.tup [tv [], tv []])) p (.lst [.ref t])) := Same.new hp
    have lt0 : LT K (upd (upd H t (.tup [tv [], tv []])) p (.lst [.ref t])) p [([], [])] := ⟨[t], upd_same, .cons (SqT.of (s2 _ _ upd_same)) .nil⟩
    have s12 := s1.trans s2
    have hpH : H p = none := s1.free hp
    refine ⟨_, rfl, ?_⟩
    dsimp only [gName]
    refine seq_gen (fun σ H1 => ∃ (p : Addr) (T : Tb) (o1 o3 : Option V), σ = [some (.ref a), o1, some (.ref p), o3] ∧ H p = none ∧ Same H H1 ∧ LT K H1 p T ∧ Xc T ∧ act T = pw (act R) n ∧ T.length ≤ 1 + 6 * n ∧ Sz (6 * n) T) (fun nx hn => ?_) ?_
    · refine ⟨fun c σ H1 => ∃ (p q : Addr) (bq : Bool) (T D : Tb) (e d : Nat), σ = [some (.ref a), some (.int (c : Int)), some (.ref p), some (.ref q)] ∧ H p = none ∧ Same H H1 ∧ LT K H1 p T ∧ Xc T ∧ act T = pw (act R) e ∧ T.length ≤ 1 + 6 * e ∧ Sz (6 * e) T ∧
        e + c * d = n ∧ (0 < c → BT K bq H1 q D ∧ Xc D ∧ Sd D ∧ act D = pw (act R) d ∧ D.length ≤ 6 * d ∧ Sz (6 * d) D), ⟨n, p, a, b, [([], [])], R, 0, 1, rfl, hpH, s12, lt0, xc_one, act_one, by decide, sz_one, by omega, fun _ => ⟨bt.same s12, xR, sdR, rfl, by omega, zR⟩⟩, ?_⟩
      rintro c σ H1 ⟨p, q, bq, T, D, e, d, rfl, hp, sm, lt, xT, aT, lT, zT, en, hD⟩
      refine ⟨_, rfl, _, _, rfl, rfl, _, rfl, ?_⟩
      by_cases hc : c = 0
      · rw [decide_eq_false (by omega)]
        rw [hc, Nat.zero_mul, Nat.add_zero] at en
        subst en
        exact iteF (hn _ _ ⟨p, T, _, _, rfl, hp, sm, lt, xT, aT, lT, zT⟩)
      rw [decide_eq_true (by omega)]
      obtain ⟨btD, xD, sdD, aD, lD, zD⟩ := hD (by omega)
      have dle : d ≤ c * d := Nat.le_mul_of_pos_left d (by omega)
      have cdm : c * d = c % 2 * d + (c / 2) * (d + d) := by
        have e1 := Nat.div_add_mod c 2
        have e2 : c * d = (2 * (c / 2) + c % 2) * d := by rw [e1]
        rw [e2, Nat.add_mul, Nat.mul_comm 2 (c / 2), Nat.mul_assoc, Nat.two_mul, Nat.add_comm]
      have ad : act D = act D := rfl
      refine iteT ⟨fun σ' H' => ∃ c', c' < c ∧ ∃ (p q : Addr) (bq : Bool) (T D : Tb) (e d : Nat), σ' = [some (.ref a), some (.int (c' : Int)), some (.ref p), some (.ref q)] ∧ H p = none ∧ Same H H' ∧ LT K H' p T ∧ Xc T ∧ act T = pw (act R) e ∧ T.length ≤ 1 + 6 * e ∧ Sz (6 * e) T ∧
        e + c' * d = n ∧ (0 < c' → BT K bq H' q D ∧ Xc D ∧ Sd D ∧ act D = pw (act R) d ∧ D.length ≤ 6 * d ∧ Sz (6 * d) D), fun σ' H' ⟨c', h1, h2⟩ => ⟨c', h1, h2⟩, ?_⟩
      refine seq_gen (fun σ H2 => ∃ (p : Addr) (T : Tb) (e' : Nat), σ = [some (.ref a), some (.int (c : Int)), some (.ref p), some (.ref q)] ∧ H p = none ∧ Same H H2 ∧ Same H1 H2 ∧ LT K H2 p T ∧ Xc T ∧ act T = pw (act R) e' ∧ T.length ≤ 1 + 6 * e' ∧ Sz (6 * e') T ∧ e' = e + c % 2 * d) (fun nx hn => ?_) ?_
      · refine ⟨_, rfl, _, _, rfl, rfl, ?_⟩
        dsimp only
        refine ⟨_, rfl, ?_⟩
        rw [PyProof.Rows.bitAnd_m1]
        rcases Nat.mod_two_eq_zero_or_one c with h | h
        · have e0 : ((c : Int) % 2 != 0) = false := by
            have : (c : Int) % 2 = 0 := by omega
            rw [this]; rfl
          rw [e0]
          exact iteF (hn _ _ ⟨p, T, e, rfl, hp, sm, Same.refl _, lt, xT, aT, lT, zT, by rw [h, Nat.zero_mul, Nat.add_zero]⟩)
        · have e0 : ((c : Int) % 2 != 0) = true := by
            have : (c : Int) % 2 = 1 := by omega
            rw [this]; rfl
          rw [e0]
          refine iteT ⟨_, rfl, _, rfl, p, q, true, bq, T, D, 6 * e, 6 * d, rfl, lt.b, btD, xT, xD, sdD, by omega, zT, zD, by omega, fun p2 H2 T2 hp2 s2 nt2 f2 l2 z2 => hn _ _ ⟨p2, T2, e + d, rfl, sm.free hp2, sm.trans s2, s2, nt2.l, f2.x, ?_, by omega, fun y hy => by have := z2 y hy; omega, by rw [h, Nat.one_mul]⟩⟩
          rw [f2.e, aT, aD, Nat.add_comm]
          exact funext fun q => (pw_add (act R) e d q).symm
      rintro σ H2 ⟨p, T, e', rfl, hp, sm2, s2, lt, xT, aT, lT, zT, ee⟩
      refine ⟨_, rfl, _, _, rfl, rfl, ⟨by decide, by decide⟩, ?_⟩
      have ec : (c : Int) / 2 = ((c / 2 : Nat) : Int) := by rw [Int.natCast_ediv]; rfl
      dsimp only
      rw [ec]
      refine ⟨_, rfl, _, _, rfl, rfl, _, rfl, ?_⟩
      by_cases hc2 : c / 2 = 0
      · rw [decide_eq_false (by omega)]
        refine iteF ⟨c / 2, by omega, p, q, bq, T, D, e', d + d, rfl, hp, sm2, lt, xT, aT, lT, zT, by omega, fun h => by omega⟩
      · rw [decide_eq_true (by omega)]
        have d2 : d + d ≤ (c / 2) * (d + d) := Nat.le_mul_of_pos_left (d + d) (by omega)
        refine iteT ⟨_, rfl, _, rfl, q, q, bq, bq, D, D, 6 * d, 6 * d, rfl, btD.same s2, btD.same s2, xD, xD, sdD, by omega, zD, zD, by omega, fun q3 H3 D3 hq3 s3 nt3 f3 l3 z3 => ?_⟩
        refine ⟨c / 2, by omega, p, q3, true, T, D3, e', d + d, rfl, hp, sm2.trans s3, lt.same s3, xT, aT, lT, zT, by omega, fun _ => ⟨nt3.l.b, f3.x, f3.sd, ?_, by omega, fun y hy => by have := z3 y hy; omega⟩⟩
        rw [f3.e, aD]
        exact funext fun q => (pw_add (act R) d d q).symm
    · rintro σ H1 ⟨p, T, o1, o3, rfl, hp, sm, lt, xT, aT, lT, zT⟩
      exact ⟨_, rfl, k p H1 T hp sm lt xT aT lT zT⟩
theorem scPow : FnScope ["self", "many"] ["self", "many"] (defScope sPow) := ⟨rfl, rfl, rfl, by decide +kernel, rfl, by decide +kernel, by decide +kernel⟩



theorem ok_pow {f fT fRp fS C : Addr} {fd fdT fdRp fdS : FuncData} (F : Fun K "power" "Swap.power" sPow f fd) (dT' : Def K mg "turned" sTur ["rows"] fT fdT) (dRp : Def K mg "repeated" sRep2 ["rows", "many"] fRp fdRp) (GRp : FnOk P w K mg base CX0 3 fRp fdRp ["rows", "many"] (spRpt K)) (dS : Def K mg "swap_of" sSwo ["rows"] fS fdS) (GS : FnOk P w K mg base CX0 8 fS fdS ["rows"] (spSwo K C)) (SC : SwC K mg C) (T : Txt mg) (MP : ∃ t, mg "POWERS" = some (.int 60 t)) :
    FnOk P w K mg base CX0 9 f fd ["self", "many"] (spPow K C) := by
  have GT : FnOk P w K mg base CX0 1 fT fdT ["rows"] (spTur K) := ok_tur dT'.fn T
  obtain ⟨tk, MP⟩ := MP
  refine F.ok scPow (fun vs H Q E h => ?_) (fun cdv A outer s H vs Q E hr h => ?_)
  · obtain ⟨x, R, α, ι, z, rfl, _⟩ := h
    rfl
  · obtain ⟨x, R, α, ι, z, rfl, sx, fR, iv, lR, zR, z0, z1, k⟩ := h
    have hr1 : Room 1 _ := hr.mono (by decide)
    have hr3 : Room 3 _ := hr.mono (by decide)
    refine ⟨_, (pss_cons (ps_if (PW.pt (pw_or (pt_cmpR op_lt (pv 1) (pe_un un_neg (pe_glob (v := .int 60) (by rfl) MP ⟨_, rfl⟩)) (nomark _)) (pw_or1 (pt_cmpR op_gt (pv 1) (pe_glob (v := .int 60) (by rfl) MP ⟨_, rfl⟩) (nomark _))))) (pss_one ps_never) pss_nil)
        (pss_one (ps_ret (pe_call GS hr rfl dS.at_ dS.fn.kp dS.bi .nil pass0 (pa_cons (pe_call GRp hr3 rfl dRp.at_ dRp.fn.kp dRp.bi .nil pass0 (pa_cons (pe_ifExp (pt_cmpR op_gt (pv 1) pe_int (nomark _)) (pe_fld (pv 0) rfl) (pe_call GT hr1 rfl dT'.at_ dT'.fn.kp dT'.bi .nil pass0 (pa_cons (pe_fld (pv 0) rfl) pa_nil))) (pa_cons (pe_callB call_abs (by rfl) T.abs b_abs (pa_cons (pv 1) pa_nil)) pa_nil))) pa_nil))))), ?_⟩
    obtain ⟨dx, t, hx, tx'⟩ := id sx
    have ea : (if z < 0 then -z else z) = (z.natAbs : Int) := by split <;> omega
    refine ⟨_, rfl, _, rfl, _, _, rfl, rfl, _, rfl, ?_⟩
    rw [decide_eq_false (show ¬ z < -(60 : Int) by omega)]
    refine iteF ⟨_, rfl, _, _, rfl, rfl, _, rfl, ?_⟩
    rw [decide_eq_false (show ¬ (60 : Int) < z by omega)]
    refine iteF ⟨_, rfl, _, _, rfl, rfl, _, rfl, ?_⟩
    -- the rest
    have fin : ∀ {H1 : Hp} {p : Addr} {U : Tb} {γ : Row → Row}, Same H H1 → LT K H1 p U → Xc U → act U = zp α ι z → U.length ≤ 1 + 6 * z.natAbs → Sz (6 * z.natAbs) U → spSwo K C [.ref p] H1 Q E0 := fun {H1 p U γ} s1 lt xU aU lU zU => by
      refine ⟨p, true, U, rfl, lt.b, xU, by omega, zU.mono (by omega), fun y H2 F hy s2 sw fw lF => k y H2 F (s1.free hy) (s1.trans s2) sw ?_ (by omega) (few_sz fw xU.h.de zU)⟩
      have := fw.a xU
      rw [aU] at this
      exact this
    by_cases hz : 0 < z
    · rw [decide_eq_true hz]
      refine iteT ⟨_, rfl, x, C, dx, _, _, rfl, hx, SC.cl, SC.nt, sfl_t t, _, rfl, _, rfl, ?_⟩
      dsimp only
      rw [ea]
      refine ⟨t, false, z.natAbs, R, rfl, tx'.t.b, fR.x, fR.sd, by omega, lR, zR, fun p H1 U hp s1 lt xU aU lU zU => fin (γ := α) s1 lt xU ?_ lU zU⟩
      rw [aU, fR.e]
      unfold zp
      rw [if_pos (by omega), show z.toNat = z.natAbs by omega]
    · rw [decide_eq_false hz]
      refine iteF ⟨_, rfl, x, C, dx, _, _, rfl, hx, SC.cl, SC.nt, sfl_t t, t, false, R, rfl, tx'.t.b, fR.x, by omega, fun p H1 U hp s1 nt pU sdU => ⟨_, rfl, _, rfl, ?_⟩⟩
      have xU : Xc U := (xc_tn fR.x).perm pU.symm
      have lU : U.length = R.length := by rw [pU.length_eq]; unfold tn; rw [List.length_map]
      have zU : Sz 6 U := fun z hz => by
        obtain ⟨y, hy, rfl⟩ := List.mem_map.mp (pU.mem_iff.mp hz)
        exact ⟨(zR y hy).2, (zR y hy).1⟩
      dsimp only
      rw [ea]
      refine ⟨p, true, z.natAbs, U, rfl, nt.l.b, xU, sdU, by omega, by omega, zU, fun p2 H2 U2 hp2 s2 lt2 xU2 aU2 lU2 zU2 => fin (γ := α) (s1.trans s2) lt2 xU2 ?_ lU2 zU2⟩
      have e := inv_tn fR.x
      rw [fR.e] at e
      rw [aU2, act_perm (xc_tn fR.x) pU, e.uniq iv]
      unfold zp
      by_cases h0 : z = 0
      · rw [h0]; rfl
      · rw [if_neg (by omega), show (-z).toNat = z.natAbs by omega]
end
end Hs

/-! part K14pwi -/
set_option Elab.async false
set_option linter.all false
set_option maxRecDepth 100000
set_option maxHeartbeats 2000000
namespace Hs
open PySem L2 Hm
/-! ### powers of one that undoes itself -/
def Ivo (R : Tb) : Prop := ∀ q, act R (act R q) = q
theorem ivo_two {R : Tb} (iv : Ivo R) : ∀ n, pw (act R) (n + 2) = pw (act R) n := fun n => funext fun q => by
  rw [pw_add (act R) 2 n q]
  have : pw (act R) 2 q = q := iv q
  rw [this]
theorem ivo_pw {R : Tb} (iv : Ivo R) : ∀ n, (n % 2 = 0 ∧ pw (act R) n = fun q => q) ∨ (n % 2 = 1 ∧ pw (act R) n = act R)
  | 0 => .inl ⟨rfl, rfl⟩
  | 1 => .inr ⟨rfl, rfl⟩
  | n + 2 => by
    rw [ivo_two iv]
    rcases ivo_pw iv n with ⟨h, e⟩ | ⟨h, e⟩
    · exact .inl ⟨by omega, e⟩
    · exact .inr ⟨by omega, e⟩
theorem fewA_one : FewA (fun q => q) [([], [])] := ⟨xc_one, fun t s ⟨h, _⟩ => (by have := congrArg Prod.fst (List.mem_singleton.mp h); simp at this), List.pairwise_singleton _ _, act_one⟩
theorem ivo_bd {R T : Tb} {e m : Nat} (iv : Ivo R) (fR : FewA (act R) R) (l : 1 ≤ R.length) (z : Sz m R) (f : FewA (pw (act R) e) T) : T.length ≤ R.length ∧ Sz m T := by
  rcases ivo_pw iv e with ⟨_, h⟩ | ⟨_, h⟩
  · rw [h] at f
    rw [f.uniq fewA_one]
    exact ⟨l, sz_one⟩
  · rw [h] at f
    rw [f.uniq fR]
    exact ⟨Nat.le_refl _, z⟩
def spRptI (K : PySem.W.Frag) : Sp := fun vs H Q _ => ∃ (a : Addr) (b : Bool) (n m : Nat) (R : Tb), vs = [.ref a, .int (n : Int)] ∧ BT K b H a R ∧ FewA (act R) R ∧ Ivo R ∧ 1 ≤ R.length ∧ R.length ≤ 30 ∧ Sz m R ∧ m ≤ 1000 ∧
  ∀ p H' T, H p = none → Same H H' → LT K H' p T → FewA (pw (act R) n) T → Q (.ref p) H'
def spPowI (K : PySem.W.Frag) (C : Addr) : Sp := fun vs H Q _ => ∃ (x : Addr) (R : Tb) (z : Int) (m : Nat), vs = [.ref x, .int z] ∧ SwAt K C H x R ∧ FewA (act R) R ∧ Ivo R ∧ R.length ≤ 30 ∧ Sz m R ∧ m ≤ 1000 ∧ -60 ≤ z ∧ z ≤ 60 ∧
  ∀ y H' F, H y = none → Same H H' → SwAt K C H' y F → FewA (pw (act R) z.natAbs) F → Q (.ref y) H'
def spPowX (K : PySem.W.Frag) (C cN : Addr) : Sp := fun vs H Q E => ∃ (x : Addr) (R : Tb) (z : Int), vs = [.ref x, .int z] ∧ SwAt K C H x R ∧ (z < -60 ∨ 60 < z) ∧ E (.ref cN) none H
section
variable {P : Program} {w : World} {K : PySem.W.Frag} {mg : Str → Option Value} {base : Heap}


theorem ok_rptI {f fJ : Addr} {fd fdJ : FuncData} (F : Fun K "repeated" "repeated" sRep2 f fd) (dJ : Def K mg "joined" sJoi ["rows", "second"] fJ fdJ) (GJ : FnOk P w K mg base CX0 2 fJ fdJ ["rows", "second"] (spJoi K)) : FnOk P w K mg base CX0 3 f fd ["rows", "many"] (spRptI K) := by
  refine F.ok scRp2 (fun vs H Q E h => ?_) (fun cdv A outer s H vs Q E hr h => ?_)
  · obtain ⟨a, b, n, m, R, rfl, _⟩ := h
    rfl
  · obtain ⟨a, b, n, m, R, rfl, bt, fR, iv, lR1, lR, zR, m1, k⟩ := h
    refine ⟨_, (pss_cons (ps_set (i := 2) scRp2.nd rfl (Or.inl rfl) (pe_lst (pa_cons (pe_tup (pa_cons pe_str (pa_cons pe_str pa_nil))) pa_nil)))
        (pss_cons (ps_set (i := 3) scRp2.nd rfl (Or.inl rfl) (pv 0))
        (pss_cons (ps_while PassesOwn.never (pt_cmpR op_gt (pv 1) pe_int (nomark _)) (pss_cons (ps_if (pt_truth (pe_op op_and (pv 1) pe_int) (by intro _; rfl)) (pss_one (ps_set (i := 2) scRp2.nd rfl (Or.inl rfl) (pe_call GJ hr rfl dJ.at_ dJ.fn.kp dJ.bi .nil pass0 (pa_cons (pv 2) (pa_cons (pv 3) pa_nil))))) pss_nil)
        (pss_cons (ps_aug (i := 1) scRp2.nd rfl (Or.inl rfl) pe_int iop_fdiv)
        (pss_one (ps_if (pt_cmpR op_gt (pv 1) pe_int (nomark _)) (pss_one (ps_set (i := 3) scRp2.nd rfl (Or.inl rfl) (pe_call GJ hr rfl dJ.at_ dJ.fn.kp dJ.bi .nil pass0 (pa_cons (pv 3) (pa_cons (pv 3) pa_nil))))) pss_nil)))))
        (pss_one (ps_ret (pv 2)))))), ?_⟩
    refine ⟨by show 2 ≤ sizeLine; decide, fun t ht => ?_⟩
    refine ⟨by show 1 ≤ sizeLine; decide, fun p hp => ?_⟩
    have et : (Str.ofString "") = tx [] := tx_nil.symm
    rw [et] at hp ⊢
    have s1 : Same H (upd H t (.tup [tv [], tv []])) := Same.new ht
    have s2 : Same (upd H t (.tup [tv [], tv []])) (upd (upd H t (.tup [tv [], tv []])) p (.lst [.ref t])) := Same.new hp
    have lt0 : LT K (upd (upd H t (.tup [tv [], tv []])) p (.lst [.ref t])) p [([], [])] := ⟨[t], upd_same, .cons (SqT.of (s2 _ _ upd_same)) .nil⟩
    have s12 := s1.trans s2
    have hpH : H p = none := s1.free hp
    refine ⟨_, rfl, ?_⟩
    dsimp only [gName]
    refine seq_gen (fun σ H1 => ∃ (p : Addr) (T : Tb) (o1 o3 : Option V), σ = [some (.ref a), o1, some (.ref p), o3] ∧ H p = none ∧ Same H H1 ∧ LT K H1 p T ∧ FewA (pw (act R) n) T) (fun nx hn => ?_) ?_
    · refine ⟨fun c σ H1 => ∃ (p q : Addr) (bq : Bool) (T D : Tb) (e d : Nat), σ = [some (.ref a), some (.int (c : Int)), some (.ref p), some (.ref q)] ∧ H p = none ∧ Same H H1 ∧ LT K H1 p T ∧ FewA (pw (act R) e) T ∧
        e + c * d = n ∧ (0 < c → BT K bq H1 q D ∧ FewA (pw (act R) d) D), ⟨n, p, a, b, [([], [])], R, 0, 1, rfl, hpH, s12, lt0, fewA_one, by omega, fun _ => ⟨bt.same s12, fR⟩⟩, ?_⟩
      rintro c σ H1 ⟨p, q, bq, T, D, e, d, rfl, hp, sm, lt, fT, en, hD⟩
      obtain ⟨lT, zT⟩ := ivo_bd iv fR lR1 zR fT
      refine ⟨_, rfl, _, _, rfl, rfl, _, rfl, ?_⟩
      by_cases hc : c = 0
      · rw [decide_eq_false (by omega)]
        rw [hc, Nat.zero_mul, Nat.add_zero] at en
        subst en
        exact iteF (hn _ _ ⟨p, T, _, _, rfl, hp, sm, lt, fT⟩)
      rw [decide_eq_true (by omega)]
      obtain ⟨btD, fD⟩ := hD (by omega)
      obtain ⟨lD, zD⟩ := ivo_bd iv fR lR1 zR fD
      have cdm : c * d = c % 2 * d + (c / 2) * (d + d) := by
        have e1 := Nat.div_add_mod c 2
        have e2 : c * d = (2 * (c / 2) + c % 2) * d := by rw [e1]
        rw [e2, Nat.add_mul, Nat.mul_comm 2 (c / 2), Nat.mul_assoc, Nat.two_mul, Nat.add_comm]
      refine iteT ⟨fun σ' H' => ∃ c', c' < c ∧ ∃ (p q : Addr) (bq : Bool) (T D : Tb) (e d : Nat), σ' = [some (.ref a), some (.int (c' : Int)), some (.ref p), some (.ref q)] ∧ H p = none ∧ Same H H' ∧ LT K H' p T ∧ FewA (pw (act R) e) T ∧
        e + c' * d = n ∧ (0 < c' → BT K bq H' q D ∧ FewA (pw (act R) d) D), fun σ' H' ⟨c', hc', h⟩ => ⟨c', hc', h⟩, ?_⟩
      refine seq_gen (fun σ H2 => ∃ (p : Addr) (T : Tb) (e' : Nat), σ = [some (.ref a), some (.int (c : Int)), some (.ref p), some (.ref q)] ∧ H p = none ∧ Same H H2 ∧ Same H1 H2 ∧ LT K H2 p T ∧ FewA (pw (act R) e') T ∧ e' = e + c % 2 * d) (fun nx hn => ?_) ?_
      · refine ⟨_, rfl, _, _, rfl, rfl, ?_⟩
        dsimp only
        refine ⟨_, rfl, ?_⟩
        rw [PyProof.Rows.bitAnd_m1]
        rcases Nat.mod_two_eq_zero_or_one c with h | h
        · have e0 : ((c : Int) % 2 != 0) = false := by
            have : (c : Int) % 2 = 0 := by omega
            rw [this]; rfl
          rw [e0]
          exact iteF (hn _ _ ⟨p, T, e, rfl, hp, sm, Same.refl _, lt, fT, by rw [h, Nat.zero_mul, Nat.add_zero]⟩)
        · have e0 : ((c : Int) % 2 != 0) = true := by
            have : (c : Int) % 2 = 1 := by omega
            rw [this]; rfl
          rw [e0]
          refine iteT ⟨_, rfl, _, rfl, p, q, true, bq, T, D, m, m, rfl, lt.b, btD, fT.x, fD.x, fD.sd, by omega, zT, zD, by omega, fun p2 H2 T2 hp2 s2 nt2 f2 l2 z2 => hn _ _ ⟨p2, T2, e + d, rfl, sm.free hp2, sm.trans s2, s2, nt2.l, ?_, by rw [h, Nat.one_mul]⟩⟩
          rw [fT.e, fD.e] at f2
          have ee : (fun q => pw (act R) d (pw (act R) e q)) = pw (act R) (e + d) := by
            rw [Nat.add_comm]
            exact funext fun q => (pw_add (act R) e d q).symm
          rw [ee] at f2
          exact f2
      rintro σ H2 ⟨p, T, e', rfl, hp, sm2, s2, lt, fT, ee⟩
      refine ⟨_, rfl, _, _, rfl, rfl, ⟨by decide, by decide⟩, ?_⟩
      have ec : (c : Int) / 2 = ((c / 2 : Nat) : Int) := by rw [Int.natCast_ediv]; rfl
      dsimp only
      rw [ec]
      refine ⟨_, rfl, _, _, rfl, rfl, _, rfl, ?_⟩
      by_cases hc2 : c / 2 = 0
      · rw [decide_eq_false (by omega)]
        refine iteF ⟨c / 2, by omega, p, q, bq, T, D, e', d + d, rfl, hp, sm2, lt, fT, by rw [ee, ← en, cdm]; omega, fun h => by omega⟩
      · rw [decide_eq_true (by omega)]
        refine iteT ⟨_, rfl, _, rfl, q, q, bq, bq, D, D, m, m, rfl, btD.same s2, btD.same s2, fD.x, fD.x, fD.sd, by omega, zD, zD, by omega, fun q3 H3 D3 hq3 s3 nt3 f3 l3 z3 => ?_⟩
        refine ⟨c / 2, by omega, p, q3, true, T, D3, e', d + d, rfl, hp, sm2.trans s3, lt.same s3, fT, by rw [ee, ← en, cdm]; omega, fun _ => ⟨nt3.l.b, ?_⟩⟩
        rw [fD.e] at f3
        have e3 : (fun q => pw (act R) d (pw (act R) d q)) = pw (act R) (d + d) := funext fun q => (pw_add (act R) d d q).symm
        rw [e3] at f3
        exact f3
    · rintro σ H1 ⟨p, T, o1, o3, rfl, hp, sm, lt, fT⟩
      exact ⟨_, rfl, k p H1 T hp sm lt fT⟩



theorem ok_powI {f fT fRp fS C : Addr} {fd fdT fdRp fdS : FuncData} (F : Fun K "power" "Swap.power" sPow f fd) (dT' : Def K mg "turned" sTur ["rows"] fT fdT) (dRp : Def K mg "repeated" sRep2 ["rows", "many"] fRp fdRp) (GRp : FnOk P w K mg base CX0 3 fRp fdRp ["rows", "many"] (spRptI K)) (dS : Def K mg "swap_of" sSwo ["rows"] fS fdS) (GS : FnOk P w K mg base CX0 8 fS fdS ["rows"] (spSwo K C)) (SC : SwC K mg C) (T : Txt mg) (MP : ∃ t, mg "POWERS" = some (.int 60 t)) :
    FnOk P w K mg base CX0 9 f fd ["self", "many"] (spPowI K C) := by
  have GT : FnOk P w K mg base CX0 1 fT fdT ["rows"] (spTur K) := ok_tur dT'.fn T
  obtain ⟨tk, MP⟩ := MP
  refine F.ok scPow (fun vs H Q E h => ?_) (fun cdv A outer s H vs Q E hr h => ?_)
  · obtain ⟨x, R, z, m, rfl, _⟩ := h
    rfl
  · obtain ⟨x, R, z, m, rfl, sx, fR, iv, lR, zR, m1, z0, z1, k⟩ := h
    have hr1 : Room 1 _ := hr.mono (by decide)
    have hr3 : Room 3 _ := hr.mono (by decide)
    have lR1 : 1 ≤ R.length := few_len (S := R) ⟨fR.x, fR.rd, fR.sd, Eqv.refl _⟩
    refine ⟨_, (pss_cons (ps_if (PW.pt (pw_or (pt_cmpR op_lt (pv 1) (pe_un un_neg (pe_glob (v := .int 60) (by rfl) MP ⟨_, rfl⟩)) (nomark _)) (pw_or1 (pt_cmpR op_gt (pv 1) (pe_glob (v := .int 60) (by rfl) MP ⟨_, rfl⟩) (nomark _))))) (pss_one ps_never) pss_nil)
        (pss_one (ps_ret (pe_call GS hr rfl dS.at_ dS.fn.kp dS.bi .nil pass0 (pa_cons (pe_call GRp hr3 rfl dRp.at_ dRp.fn.kp dRp.bi .nil pass0 (pa_cons (pe_ifExp (pt_cmpR op_gt (pv 1) pe_int (nomark _)) (pe_fld (pv 0) rfl) (pe_call GT hr1 rfl dT'.at_ dT'.fn.kp dT'.bi .nil pass0 (pa_cons (pe_fld (pv 0) rfl) pa_nil))) (pa_cons (pe_callB call_abs (by rfl) T.abs b_abs (pa_cons (pv 1) pa_nil)) pa_nil))) pa_nil))))), ?_⟩
    obtain ⟨dx, t, hx, tx'⟩ := id sx
    have ea : (if z < 0 then -z else z) = (z.natAbs : Int) := by split <;> omega
    refine ⟨_, rfl, _, rfl, _, _, rfl, rfl, _, rfl, ?_⟩
    rw [decide_eq_false (show ¬ z < -(60 : Int) by omega)]
    refine iteF ⟨_, rfl, _, _, rfl, rfl, _, rfl, ?_⟩
    rw [decide_eq_false (show ¬ (60 : Int) < z by omega)]
    refine iteF ⟨_, rfl, _, _, rfl, rfl, _, rfl, ?_⟩
    have fin : ∀ {H1 : Hp} {p : Addr} {U : Tb}, Same H H1 → LT K H1 p U → FewA (pw (act R) z.natAbs) U → spSwo K C [.ref p] H1 Q E0 := fun {H1 p U} s1 lt fU => by
      obtain ⟨lU, zU⟩ := ivo_bd iv fR lR1 zR fU
      refine ⟨p, true, U, rfl, lt.b, fU.x, by omega, zU.mono (by omega), fun y H2 F hy s2 sw fw lF => k y H2 F (s1.free hy) (s1.trans s2) sw ?_⟩
      have := fw.a fU.x
      rw [fU.e] at this
      exact this
    by_cases hz : 0 < z
    · rw [decide_eq_true hz]
      refine iteT ⟨_, rfl, x, C, dx, _, _, rfl, hx, SC.cl, SC.nt, sfl_t t, _, rfl, _, rfl, ?_⟩
      dsimp only
      rw [ea]
      exact ⟨t, false, z.natAbs, m, R, rfl, tx'.t.b, fR, iv, lR1, lR, zR, m1, fun p H1 U hp s1 lt fU => fin s1 lt fU⟩
    · rw [decide_eq_false hz]
      refine iteF ⟨_, rfl, x, C, dx, _, _, rfl, hx, SC.cl, SC.nt, sfl_t t, t, false, R, rfl, tx'.t.b, fR.x, by omega, fun p H1 U hp s1 nt pU sdU => ⟨_, rfl, _, rfl, ?_⟩⟩
      have xU : Xc U := (xc_tn fR.x).perm pU.symm
      have eU : act U = act R := by
        rw [act_perm (xc_tn fR.x) pU]
        exact (inv_tn fR.x).uniq ⟨iv, iv⟩
      have rU : Rdc U := fun t s ⟨h1, h2⟩ => by
        obtain ⟨y1, hy1, e1⟩ := List.mem_map.mp (pU.mem_iff.mp h1)
        obtain ⟨y2, hy2, e2⟩ := List.mem_map.mp (pU.mem_iff.mp h2)
        have a1 := congrArg Prod.fst e1
        have b1 := congrArg Prod.snd e1
        have a2 := congrArg Prod.fst e2
        have b2 := congrArg Prod.snd e2
        exact fR.rd s t ⟨by rw [← show y1 = (s ++ [false], t ++ [false]) from Prod.ext b1 a1]; exact hy1, by rw [← show y2 = (s ++ [true], t ++ [true]) from Prod.ext b2 a2]; exact hy2⟩
      have fU : FewA (act R) U := ⟨xU, rU, sdU, eU⟩
      have eUR : U = R := fU.uniq fR
      subst eUR
      dsimp only
      rw [ea]
      exact ⟨p, true, z.natAbs, m, U, rfl, nt.l.b, fR, iv, lR1, lR, zR, m1, fun p2 H2 U2 hp2 s2 lt2 fU2 => fin (s1.trans s2) lt2 fU2⟩
theorem ok_powX {f C cN : Addr} {fd : FuncData} (F : Fun K "power" "Swap.power" sPow f fd) (T : Txt mg) (MP : ∃ t, mg "POWERS" = some (.int 60 t)) (R : Ref K mg "BadNumber" cN) :
    FnOk P w K mg base (CXE P w) 9 f fd ["self", "many"] (spPowX K C cN) := by
  obtain ⟨tk, MP⟩ := MP
  refine F.okX scPow (fun vs H Q E h => ?_) (fun cdv A outer s H vs Q E hr h => ?_)
  · obtain ⟨x, R, z, rfl, _⟩ := h
    rfl
  · obtain ⟨x, R', z, rfl, sx, hz, k⟩ := h
    refine ⟨_, (pss_cons (ps_if (PW.pt (pw_or (pt_cmpR op_lt (pv 1) (pe_un un_neg (pe_glob (v := .int 60) (by rfl) MP ⟨_, rfl⟩)) (nomark _)) (pw_or1 (pt_cmpR op_gt (pv 1) (pe_glob (v := .int 60) (by rfl) MP ⟨_, rfl⟩) (nomark _))))) (pss_one (ps_raise own_of rfl rfl R.at_ R.ex PySem.F.excBase_ValueError (pa_cons (pe_fs (pj_cons pe_str (pj_cons (pe_fmtI (pe_un un_neg (pe_glob (v := .int 60) (by rfl) MP ⟨_, rfl⟩))) (pj_cons pe_str (pj_cons (pe_fmtI (pe_glob (v := .int 60) (by rfl) MP ⟨_, rfl⟩)) pj_nil))))) pa_nil))) pss_nil)
        (pss_one ps_never)), ?_⟩
    refine ⟨_, rfl, _, rfl, _, _, rfl, rfl, _, rfl, ?_⟩
    by_cases h0 : z < -(60 : Int)
    · rw [decide_eq_true h0]
      refine iteT (iteT ?_)
      refine ⟨_, rfl, by decide +kernel, ?_⟩
      exact ⟨60, rfl, _, rfl, by decide +kernel, _, rfl, by decide +kernel, _, rfl, by decide +kernel, 60, rfl, by decide +kernel, _, rfl, by decide +kernel, by decide +kernel, by decide, k⟩
    · rw [decide_eq_false h0]
      refine iteF ⟨_, rfl, _, _, rfl, rfl, _, rfl, ?_⟩
      rw [decide_eq_true (show (60 : Int) < z by omega)]
      refine iteT ?_
      refine ⟨_, rfl, by decide +kernel, ?_⟩
      exact ⟨60, rfl, _, rfl, by decide +kernel, _, rfl, by decide +kernel, _, rfl, by decide +kernel, 60, rfl, by decide +kernel, _, rfl, by decide +kernel, by decide +kernel, by decide, k⟩
end
end Hs

/-! part K14bes -/
set_option Elab.async false
set_option linter.all false
set_option maxRecDepth 100000
set_option maxHeartbeats 2000000
namespace Hs
open PySem L2 Hm
abbrev sBes : Stmt := top 48
def spBes : Sp := fun vs H Q _ => ∃ h : W, vs = [tv h] ∧ h.length ≤ 500 ∧ ∀ p H', H p = none → Same H H' → H' p = some (.lst (tvs (bes h))) → Q (.ref p) H'
theorem at_txw {x : W} {z : Int} {j : Nat} {b : Bool} (e : z = (j : Int)) (h : x[j]? = some b) : atI (tx x).cps.toList z = some (cp b) := by
  rw [e, tl_tx]
  exact atI_nat (by rw [List.getElem?_map, h]; rfl)
theorem sgn0 (b : Bool) : decide (V.str ⟨#[cp b]⟩ = V.str ("0" : Str)) = !b := by cases b <;> decide +kernel
section
variable {P : Program} {w : World} {K : PySem.W.Frag} {mg : Str → Option Value} {base : Heap}
abbrev NBe : List Str := ["head", "at"]
theorem scBe : FnScope NBe ["head"] (defScope sBes) := ⟨rfl, rfl, rfl, by decide +kernel, rfl, by decide +kernel, by decide +kernel⟩


theorem ok_bes {f : Addr} {fd : FuncData} (F : Fun K "beside" "beside" sBes f fd) (T : Txt mg) : FnOk P w K mg base CX0 1 f fd ["head"] spBes := by
  refine F.ok scBe (fun vs H Q E h => ?_) (fun cdv A outer s H vs Q E hr h => ?_)
  · obtain ⟨h, rfl, _⟩ := h
    rfl
  · obtain ⟨h, rfl, lh, k⟩ := h
    refine ⟨_, (pss_one (ps_ret (pe_lc (own := [("at", 1)]) (g := gName 1) (by rfl) scBe.nd (pi_range1 rfl T.range (pa_cons (pe_callB call_len_str (by rfl) T.len PySem.boot_len (pa_cons (pv 0) pa_nil)) pa_nil)) (blkOk_by (own := [("at", 1)]) (N := NBe) (sc := defScope sBes) (by decide +kernel)) (fun _ _ _ _ _ => pg_name (i := 1) scBe.nd rfl (Or.inl rfl)) (fun _ _ _ _ _ => pts_nil) (fun _ _ _ _ _ => pe_op op_add_str (pe_slice sl_str (pv 0) po_none (po_some (pv 1))) (pe_ifExp (pt_cmpR op_eq (pe_ix (r := rIxS) ix_str (pv 0) (pv 1) (fun _ _ => rfl)) pe_str (nomark _)) pe_str pe_str))))), ?_⟩
    have big : ∀ {m : Nat}, m ≤ 100000 → m ≤ sizeLine := fun h => Nat.le_trans h (by decide)
    refine ⟨_, rfl, _, rfl, by rw [tx_len]; exact big (by omega), _, rfl, by rw [tx_len]; omega, by rw [tx_len]; omega, fun D hD => ?_⟩
    rw [tx_len]
    refine lc_range (lo := 0) (n := ((h.length : Int)).toNat) (fun i H1 => Same H H1 ∧ H1 D = some (.lst (tvs ((bes h).take i)))) ⟨Same.new hD, upd_same⟩ ?_ ?_
    · rintro i H1 hi ⟨s1, hD1⟩
      rw [Int.toNat_natCast] at hi
      have eb : h[i]? = some h[i] := List.getElem?_eq_getElem hi
      refine ⟨rfl, _, rfl, _, rfl, _, rfl, _, rfl, by rw [tx_len]; exact big (by omega), ?_⟩
      rw [Int.zero_add, cut_take]
      refine ⟨_, rfl, _, rfl, _, _, cp h[i], rfl, rfl, by rw [tx_len]; exact big (by omega), at_txw rfl eb, rfl, _, rfl, ?_⟩
      rw [sgn0]
      have fin : ∀ z : Str, tx (h.take i) ++ z = tx (h.take i ++ [!h[i]]) → z.length = 1 → (∃ a b : Str, V.str (tx (h.take i)) = .str a ∧ V.str z = .str b ∧ a.length + b.length ≤ sizeLine ∧ ∃ acc, H1 D = some (.lst acc) ∧ acc.length < sizeLine ∧ Same H (upd H1 D (.lst (acc ++ [.str (a ++ b)]))) ∧ (upd H1 D (.lst (acc ++ [.str (a ++ b)]))) D = some (.lst (tvs ((bes h).take (i + 1))))) := fun z ez lz => by
        refine ⟨_, _, rfl, rfl, by rw [tx_len, lz, List.length_take]; exact big (by omega), _, hD1, ?_, fun c o e => ?_, ?_⟩
        · rw [len_tvs, List.length_take]; exact Nat.lt_of_le_of_lt (Nat.min_le_left _ _) (small1000 (by omega))
        · rw [upd_ne (ne_of_none e hD)]; exact s1 _ _ e
        · rw [upd_same, ez, List.take_add_one, bes_at eb]
          unfold tvs
          rw [List.map_append]
          rfl
      cases hb : h[i] with
      | false =>
        refine iteT ?_
        exact fin ("1" : Str) (by rw [tx_a1, hb]; rfl) (by decide +kernel)
      | true =>
        refine iteF ?_
        exact fin ("0" : Str) (by rw [tx_a0, hb]; rfl) (by decide +kernel)
    · rintro H1 ⟨s1, hD1⟩
      rw [Int.toNat_natCast, ← bes_len h, List.take_length] at hD1
      exact k D H1 hD s1 hD1
end
end Hs

/-! part K14ap -/
set_option Elab.async false
set_option linter.all false
set_option maxRecDepth 100000
set_option maxHeartbeats 1000000
namespace Hs
open PySem L2 Hm
abbrev sAp : Stmt := top 26
abbrev sStA : Stmt := top 27
def spStA : Sp := fun vs H Q _ => ∃ a b, vs = [.str a, .str b] ∧ a.length ≤ sizeLine ∧ b.length ≤ sizeLine ∧ Q (.bl (apt a b)) H
def spAp (cB : Addr) : Sp := fun vs H Q E => ∃ a b, vs = [.str a, .str b] ∧ a.length ≤ sizeLine ∧ b.length ≤ sizeLine ∧ ((isH a && isH b) = true → Q (.bl (apt a b)) H) ∧ ((isH a && isH b) = false → E (.ref cB) none H)
section
variable {P : Program} {w : World} {K : PySem.W.Frag} {mg : Str → Option Value} {base : Heap}
theorem scStA : FnScope ["one", "other"] ["one", "other"] (defScope sStA) := ⟨rfl, rfl, rfl, by decide +kernel, rfl, by decide +kernel, by decide +kernel⟩
theorem ok_stap {f : Addr} {fd : FuncData} (F : Fun K "stand_apart" "stand_apart" sStA f fd) : FnOk P w K mg base CX0 1 f fd ["one", "other"] spStA := by
  refine F.ok scStA (fun vs H Q E h => ?_) (fun cdv A outer s H vs Q E hr h => ?_)
  · obtain ⟨a, b, rfl, _⟩ := h
    rfl
  · obtain ⟨a, b, rfl, h1, h2, k⟩ := h
    refine ⟨_, pss_one (ps_ret (pe_and (pe_not (pe_m1 PySem.F.slot_str_startswith PySem.F.type_str_startswith mt_startswith (pv 0) (pv 1)))
        (pe_one (pe_not (pe_m1 PySem.F.slot_str_startswith PySem.F.type_str_startswith mt_startswith (pv 1) (pv 0)))))), ?_⟩
    unfold apt at k
    refine ⟨_, rfl, ⟨_, rfl⟩, _, rfl, _, _, rfl, rfl, _, rfl, _, rfl, ?_⟩
    rw [starts_dec]
    cases e : decide (b.cps.toList <+: a.cps.toList) with
    | true => rw [e] at k; exact iteF k
    | false =>
      rw [e] at k
      refine iteT ⟨_, rfl, ⟨_, rfl⟩, _, rfl, _, _, rfl, rfl, _, rfl, ?_⟩
      rw [starts_dec]
      exact k
theorem scAp : FnScope ["one", "other"] ["one", "other"] (defScope sAp) := ⟨rfl, rfl, rfl, by decide +kernel, rfl, by decide +kernel, by decide +kernel⟩
theorem ok_ap {f fO fH fN fS cB : Addr} {fd fdO fdH fdN fdS : FuncData} (F : Fun K "apart" "apart" sAp f fd) (dO : Def K mg "only_signs" sOnly ["text"] fO fdO) (dH : Def K mg "is_head" sIsH ["text"] fH fdH) (dN : Def K mg "need_head" sNeed ["text"] fN fdN) (dS : Def K mg "stand_apart" sStA ["one", "other"] fS fdS) (T : Txt mg) (L : ∃ t, mg "LONGEST" = some (.int 60 t)) (R : Ref K mg "BadHead" cB) :
    FnOk P w K mg base (CXE P w) 4 f fd ["one", "other"] (spAp cB) := by
  have GN : FnOk P w K mg base (CXE P w) 3 fN fdN ["text"] (spNeedX cB) := ok_needX dN.fn dO dH T L R
  have GS : FnOk P w K mg base CX0 1 fS fdS ["one", "other"] spStA := ok_stap dS.fn
  refine F.okX scAp (fun vs H Q E h => ?_) (fun cdv A outer s H vs Q E hr h => ?_)
  · obtain ⟨a, b, rfl, _⟩ := h
    rfl
  · obtain ⟨a, b, rfl, h1, h2, k1, k2⟩ := h
    refine ⟨_, pss_cons (ps_expr (pe_call GN hr rfl dN.at_ dN.fn.kp dN.bi .nil (XI.pass own_of rfl rfl) (pa_cons (pv 0) pa_nil)))
      (pss_cons (ps_expr (pe_call GN hr rfl dN.at_ dN.fn.kp dN.bi .nil (XI.pass own_of rfl rfl) (pa_cons (pv 1) pa_nil)))
      (pss_one (ps_ret (pe_call GS (hr.mono (by decide)) rfl dS.at_ dS.fn.kp dS.bi .nil pass0 (pa_cons (pv 0) (pa_cons (pv 1) pa_nil)))))), ?_⟩
    refine ⟨_, rfl, a, rfl, h1, fun e1 => ?_, fun e1 => k2 (by rw [e1]; rfl)⟩
    refine ⟨_, rfl, b, rfl, h2, fun e2 => ?_, fun e2 => k2 (by rw [e1, e2]; rfl)⟩
    exact ⟨_, rfl, _, rfl, a, b, rfl, h1, h2, k1 (by rw [e1, e2]; rfl)⟩
end
end Hs

/-! part Hl -/
namespace Hm
/-! ### plain exchanges -/
theorem cut_bes (h : W) : Cut (h :: bes h) := by
  have c : Cut [([] : W)] := ⟨List.pairwise_singleton _ _, fun r => ⟨[], .head _, trivial⟩⟩
  have := cut_in h c
  simpa using this
theorem bes_form : ∀ {h y : W}, y ∈ bes h → ∃ t b u, h = t ++ b :: u ∧ y = t ++ [!b]
  | b :: h, y, m => by
    rcases List.mem_cons.mp m with rfl | m
    · exact ⟨[], b, h, rfl, rfl⟩
    · obtain ⟨x, hx, rfl⟩ := List.mem_map.mp m
      obtain ⟨t, c, u, rfl, rfl⟩ := bes_form hx
      exact ⟨b :: t, c, u, rfl, rfl⟩
/-- a head in one of two such cuts, apart from the other's head, is in what both have -/
theorem own_mx {o p : W} (ap : Ap o p) : Mx ((o :: bes o) ++ (p :: bes p)) o := by
  refine ⟨List.mem_append_left _ (.head _), fun y hy e => ?_⟩
  rcases List.mem_append.mp hy with hy | hy
  · exact ((cut_bes o).an.ac o (.head _) y hy e).symm
  · rcases List.mem_cons.mp hy with rfl | hy
    · exact absurd e ap.1
    · obtain ⟨t, b, u, rfl, rfl⟩ := bes_form hy
      rcases List.prefix_concat_iff.mp e with q | q
      · exact q.symm
      · exact absurd (q.trans (List.prefix_append _ _)) ap.1
theorem mx_swap {a b : List W} {x : W} (m : Mx (a ++ b) x) : Mx (b ++ a) x := ⟨by have := m.1; simp at this ⊢; exact this.symm, fun y hy e => m.2 y (by simp at hy ⊢; exact hy.symm) e⟩
open Classical in
noncomputable def swp (o p h : W) : W := if h = o then p else if h = p then o else h
noncomputable def plr (o p : W) (t : List W) : Tb := t.map fun h => (h, swp o p h)
open Classical in
noncomputable def pl (o p : W) (q : Row) : Row := if firstN q o.length = o then put p (fun i => q (i + o.length)) else if firstN q p.length = p then put o (fun i => q (i + p.length)) else q
theorem hds_plr (o p : W) (t : List W) : hds (plr o p t) = t := by unfold hds plr; rw [List.map_map]; exact List.map_id' t
theorem not_both {o p : W} (ap : Ap o p) {q : Row} (h : firstN q o.length = o) (h' : firstN q p.length = p) : False := by
  rcases first_pre h h' with e | e
  · exact ap.1 e
  · exact ap.2 e
theorem act_plr {o p : W} (ap : Ap o p) {t : List W} (ct : Cut t) (ho : o ∈ t) (hp : p ∈ t) : act (plr o p t) = pl o p := funext fun q => by
  have an : Anti (hds (plr o p t)) := by rw [hds_plr]; exact ct.an
  have mem : ∀ {h : W}, h ∈ t → (h, swp o p h) ∈ plr o p t := fun m => List.mem_map.mpr ⟨_, m, rfl⟩
  unfold pl
  by_cases e1 : firstN q o.length = o
  · rw [if_pos e1, act_at an (mem ho) e1]
    unfold Img swp
    rw [if_pos rfl]
  · rw [if_neg e1]
    by_cases e2 : firstN q p.length = p
    · rw [if_pos e2, act_at an (mem hp) e2]
      have ne : p ≠ o := fun e => ap.1 (e ▸ List.prefix_refl _)
      unfold Img swp
      rw [if_neg ne, if_pos rfl]
    · rw [if_neg e2]
      obtain ⟨h, hh, u⟩ := ct.de q
      rw [un_first] at u
      rw [act_at an (mem hh) u]
      have n1 : h ≠ o := fun e => e1 (e ▸ u)
      have n2 : h ≠ p := fun e => e2 (e ▸ u)
      unfold Img swp
      rw [if_neg n1, if_neg n2]
      exact put_back u
theorem pl_put1 {o p : W} (c : Row) : pl o p (put o c) = put p c := by
  unfold pl
  rw [if_pos (first_put o c), funext fun i => put_at o c i]
theorem pl_put2 {o p : W} (ap : Ap o p) (c : Row) : pl o p (put p c) = put o c := by
  unfold pl
  rw [if_neg (fun e => not_both ap e (first_put p c)), if_pos (first_put p c), funext fun i => put_at p c i]
theorem pl_inv {o p : W} (ap : Ap o p) : Inv (pl o p) (pl o p) := by
  have key : ∀ q, pl o p (pl o p q) = q := fun q => by
    by_cases e1 : firstN q o.length = o
    · rw [← put_back e1, pl_put1, pl_put2 ap]
    · by_cases e2 : firstN q p.length = p
      · rw [← put_back e2, pl_put2 ap, pl_put1]
      · have e : pl o p q = q := by unfold pl; rw [if_neg e1, if_neg e2]
        rw [e, e]
  exact ⟨key, key⟩
theorem xc_plr {o p : W} (ap : Ap o p) {t : List W} (ct : Cut t) (ho : o ∈ t) (hp : p ∈ t) : Xc (plr o p t) := by
  have ch : Cut (hds (plr o p t)) := by rw [hds_plr]; exact ct
  have key : ∀ {z z' : W × W}, z ∈ plr o p t → z' ∈ plr o p t → Ap z.1 z'.1 → ¬ z.2 <+: z'.2 := fun {z z'} m m' a ⟨w, e⟩ => by
    have e1 : act (plr o p t) (put z'.1 fun _ => false) = act (plr o p t) (put z.1 (put w fun _ => false)) := by
      rw [act_at ch.an m' (first_put _ _), act_at ch.an m (first_put _ _)]
      unfold Img
      rw [funext fun i => put_at z'.1 _ i, funext fun i => put_at z.1 _ i, ← put_app', e]
    rw [act_plr ap ct ho hp] at e1
    have e2 := congrArg (pl o p) e1
    rw [(pl_inv ap).1, (pl_inv ap).1] at e2
    rcases put_cmp e2 with q | q
    · exact a.2 q
    · exact a.1 q
  refine ⟨ch, ?_, fun r => ?_⟩
  · unfold ots
    show List.Pairwise Ap _
    rw [List.pairwise_map]
    have a1 : (plr o p t).Pairwise fun z z' => Ap z.1 z'.1 := List.pairwise_map.mp (show List.Pairwise Ap ((plr o p t).map Prod.fst) from ch.an)
    exact a1.imp_of_mem fun {z z'} m m' a => ⟨key m m' a, key m' m a.symm⟩
  · obtain ⟨z, m, f⟩ := cov_first ch.de (pl o p r)
    refine ⟨z.2, List.mem_map.mpr ⟨z, m, rfl⟩, (un_first _ _).mpr ?_⟩
    have e := act_at ch.an m f
    rw [act_plr ap ct ho hp, (pl_inv ap).1] at e
    rw [e]
    exact first_put _ _
end Hm

/-! part K14pl -/
set_option Elab.async false
set_option linter.all false
set_option maxRecDepth 100000
set_option maxHeartbeats 2000000
namespace Hs
open PySem L2 Hm
abbrev sPlr : Stmt := top 49
abbrev sPln : Stmt := top 59
def spPlr : Sp := fun vs H Q _ => ∃ o p : W, vs = [tv o, tv p] ∧ Ap o p ∧ o.length + p.length ≤ 60 ∧ ∀ q H' t, H q = none → Same H H' → NT H' q (plr o p t) → Cut t → o ∈ t → p ∈ t → t.length ≤ o.length + p.length + 2 → (∀ x ∈ t, x.length ≤ 60) → Q (.ref q) H'
def spPln (K : PySem.W.Frag) (C cB cA : Addr) : Sp := fun vs H Q E => ∃ a b : Str, vs = [.str a, .str b] ∧ a.length ≤ 1000 ∧ b.length ≤ 1000 ∧
  (∀ o p : W, a = tx o → b = tx p → o.length ≤ 60 → p.length ≤ 60 → Ap o p → o.length + p.length ≤ 60 ∧ ∀ z H' F, H z = none → Same H H' → SwAt K C H' z F → FewA (pl o p) F → F.length ≤ o.length + p.length + 2 → Sz 60 F → Q (.ref z) H') ∧
  (∀ o p : W, a = tx o → b = tx p → o.length ≤ 60 → p.length ≤ 60 → ¬ Ap o p → E (.ref cA) none H) ∧ ((isH a && isH b) = false → E (.ref cB) none H)
theorem apt_tx (x y : W) : apt (tx x) (tx y) = true ↔ Ap x y := by
  unfold apt
  rw [← starts_dec, ← starts_dec, Bool.and_eq_true, Bool.not_eq_true', Bool.not_eq_true', ← Bool.not_eq_true, ← Bool.not_eq_true, starts_tx, starts_tx]
  exact ⟨fun ⟨h1, h2⟩ => ⟨h2, h1⟩, fun ⟨h1, h2⟩ => ⟨h2, h1⟩⟩
section
variable {P : Program} {w : World} {K : PySem.W.Frag} {mg : Str → Option Value} {base : Heap}
abbrev NPr : List Str := ["one", "other", "places", "cut", "head"]
theorem scPr : FnScope NPr ["one", "other"] (defScope sPlr) := ⟨rfl, rfl, rfl, by decide +kernel, rfl, by decide +kernel, by decide +kernel⟩


theorem ok_plr {f fB fC : Addr} {fd fdB fdC : FuncData} (F : Fun K "plain_rows" "plain_rows" sPlr f fd) (dB : Def K mg "beside" sBes ["head"] fB fdB) (dC : Def K mg "common" sCom ["one", "other"] fC fdC) (T : Txt mg) : FnOk P w K mg base CX0 2 f fd ["one", "other"] spPlr := by
  have GB : FnOk P w K mg base CX0 1 fB fdB ["head"] spBes := ok_bes dB.fn T
  have GC : FnOk P w K mg base CX0 1 fC fdC ["one", "other"] spCom := ok_com dC.fn T
  refine F.ok scPr (fun vs H Q E h => ?_) (fun cdv A outer s H vs Q E hr h => ?_)
  · obtain ⟨o, p, rfl, _⟩ := h
    rfl
  · obtain ⟨o, p, rfl, ap, l60, k⟩ := h
    have hu1 : (A.deeper (PyProof.Rows.envOfC "plain_rows" (defScope sPlr) s.heap.objs.size f cdv)).units + 1 < cLine := by have := hr.un; omega
    refine ⟨_, (pss_cons (ps_set (i := 2) scPr.nd rfl (Or.inr rfl) (pe_disp (pps_cons (pv 0) (pv 1) (pps_cons (pv 1) (pv 0) pps_nil)) rfl rfl (fun e => nomatch e) (by decide)))
        (pss_cons (ps_set (i := 3) scPr.nd rfl (Or.inl rfl) (pe_call GC hr rfl dC.at_ dC.fn.kp dC.bi .nil pass0 (pa_cons (pe_lst (pa_cons (pv 0) (pa_star (pe_call GB hr rfl dB.at_ dB.fn.kp dB.bi .nil pass0 (pa_cons (pv 0) pa_nil)) pa_nil))) (pa_cons (pe_lst (pa_cons (pv 1) (pa_star (pe_call GB hr rfl dB.at_ dB.fn.kp dB.bi .nil pass0 (pa_cons (pv 1) pa_nil)) pa_nil))) pa_nil))))
        (pss_one (ps_ret (pe_lc (own := [("head", 4)]) (g := gName 4) (by rfl) scPr.nd (pi_list (pv 3)) (blkOk_by (own := [("head", 4)]) (N := NPr) (sc := defScope sPlr) (by decide +kernel)) (fun _ _ _ _ _ => pg_name (i := 4) scPr.nd rfl (Or.inl rfl)) (fun _ _ _ _ _ => pts_nil) (fun _ _ _ _ _ => pe_tup (pa_cons (pv 4) (pa_cons (pe_dget2 hu1 (pv 2) (pv 4) (pv 4) ⟨rfl, rfl, rfl, rfl⟩) pa_nil)))))))), ?_⟩
    have big : ∀ {m : Nat}, m ≤ 100000 → m ≤ sizeLine := fun h => Nat.le_trans h (by decide)
    have ne : o ≠ p := fun e => ap.1 (e ▸ List.prefix_refl _)
    have lo := bes_len o
    have lp := bes_len p
    refine fun d hd => ⟨_, rfl, _, rfl, _, rfl, _, rfl, upd_same, dkv [(o, p), (p, o)], rfl, by show 2 ≤ 15; decide, ?_⟩
    have nd : (hds ([] ++ [(o, p), (p, o)])).Nodup := by
      show ([o, p] : List W).Nodup
      simp [ne]
    have em : mergeK [] (dkv [(o, p), (p, o)]) = dkv [(o, p), (p, o)] := merge_dkv [(o, p), (p, o)] [] nd
    rw [em]
    have s1 : Same H (upd (upd H d (.dK [])) d (.dK (dkv [(o, p), (p, o)]))) := fun c u e => by
      have n := ne_of_none e hd
      rw [upd_ne n, upd_ne n]; exact e
    have hd1 : (upd (upd H d (.dK [])) d (.dK (dkv [(o, p), (p, o)]))) d = some (.dK (dkv [(o, p), (p, o)])) := upd_same
    generalize upd (upd H d (.dK [])) d (.dK (dkv [(o, p), (p, o)])) = H1 at s1 hd1
    refine ⟨_, rfl, _, rfl, o, rfl, by omega, fun q2 H2 hq2 s2 e2 => ?_⟩
    refine ⟨q2, _, rfl, SqL.of e2, by rw [List.append_nil]; show (tvs (bes o)).length + 1 ≤ sizeLine; rw [len_tvs]; exact big (by omega), fun l1 hl1 => ?_⟩
    have s3 : Same H2 (upd H2 l1 (.lst (tvs (o :: bes o)))) := Same.new hl1
    have e3 : (upd H2 l1 (.lst (tvs (o :: bes o)))) l1 = some (.lst (tvs (o :: bes o))) := upd_same
    rw [List.append_nil]
    refine ⟨_, rfl, _, rfl, p, rfl, by omega, fun q4 H4 hq4 s4 e4 => ?_⟩
    refine ⟨q4, _, rfl, SqL.of e4, by rw [List.append_nil]; show (tvs (bes p)).length + 1 ≤ sizeLine; rw [len_tvs]; exact big (by omega), fun l2 hl2 => ?_⟩
    rw [List.append_nil]
    have s5 : Same H4 (upd H4 l2 (.lst (tvs (p :: bes p)))) := Same.new hl2
    refine ⟨l1, l2, o :: bes o, p :: bes p, rfl, s5 _ _ (s4 _ _ e3), upd_same, by rw [List.length_cons, List.length_cons]; omega, fun cq H6 t hcq s6 e6 cm lt => ?_⟩
    have s16 := s2.trans (s3.trans (s4.trans (s5.trans s6)))
    have hd6 := s16 _ _ hd1
    have ct : Cut t := ⟨cm.anti, fun r => cm.den (cut_bes o) (cut_bes p) r⟩
    have ho : o ∈ t := (cm.me o).mpr (own_mx ap)
    have hp' : p ∈ t := (cm.me p).mpr (mx_swap (own_mx ap.symm))
    have lt' : t.length ≤ o.length + p.length + 2 := by
      have := com_len cm
      rw [List.length_cons, List.length_cons] at this
      omega
    have zt : ∀ x ∈ t, x.length ≤ 60 := fun x hx => by
      rcases List.mem_append.mp ((cm.me x).mp hx).1 with h | h
      · rcases List.mem_cons.mp h with rfl | h
        · omega
        · have := bes_sz h; omega
      · rcases List.mem_cons.mp h with rfl | h
        · omega
        · have := bes_sz h; omega
    refine ⟨_, rfl, cq, rfl, ⟨_, SqL.of e6⟩, fun D hD => ?_⟩
    refine lc_list (K := K) (a := cq) (xs := tvs t) (fun j H7 => Same H6 H7 ∧ ∃ ds : List Addr, H7 D = some (.lst (ds.map V.ref)) ∧ PTn H7 ds ((plr o p t).take j)) ⟨Same.new hD, [], upd_same, .nil⟩ (fun j H7 _ q => SqL.of (q.1 _ _ e6)) ?_ ?_
    · rintro j v H7 hv ⟨s7, ds, hD7, pd⟩
      obtain ⟨y, hy, rfl⟩ := tvs_at hv
      have hj := (List.getElem?_eq_some_iff.mp hy).1
      have ey : (plr o p t)[j]? = some (y, swp o p y) := by unfold plr; rw [List.getElem?_map, hy]; rfl
      have ev : (valV (dkv [(o, p), (p, o)]) (Sum.inr (tx y))).getD (tv y) = tv (swp o p y) := by
        unfold swp
        by_cases e1 : y = o
        · rw [if_pos e1, e1, val_mem (F := [(o, p), (p, o)]) nd (.head _)]; rfl
        · rw [if_neg e1]
          by_cases e2 : y = p
          · rw [if_pos e2, e2, val_mem (F := [(o, p), (p, o)]) nd (.tail _ (.head _))]; rfl
          · rw [if_neg e2, val_none (show y ∉ hds [(o, p), (p, o)] from fun h => by
              have h : y ∈ ([o, p] : List W) := h
              simp [e1, e2] at h)]
            rfl
      refine ⟨rfl, _, rfl, _, rfl, d, rfl, .inl ⟨_, .inl (s7 _ _ hd6)⟩, _, rfl, _, rfl, _, DGet.k (k := Sum.inr (tx y)) (s7 _ _ hd6), ?_⟩
      rw [ev]
      refine ⟨by show 2 ≤ sizeLine; decide, fun u hu => ?_⟩
      have st : Same H7 (upd H7 u (.tup [tv y, tv (swp o p y)])) := Same.new hu
      have kk := KpT.set (o' := .lst (ds.map V.ref ++ [.ref u])) (st _ _ hD7) (fun _ z => nomatch z) (fun _ _ z => nomatch z)
      have ld := pd.len
      rw [List.length_take] at ld
      refine ⟨_, st _ _ hD7, by rw [List.length_map]; exact small1000 (by omega), fun c o e => ?_, ds ++ [u], by rw [upd_same, List.map_append]; rfl, ?_⟩
      · rw [upd_ne (ne_of_none e hD)]; exact st _ _ (s7 _ _ e)
      · rw [List.take_add_one, ey]
        exact (PTn.keep ((KpT.of st).trans kk) pd).app (.cons (kk.t _ _ upd_same) .nil)
    · rintro H7 ⟨s7, ds, hD7, pd⟩
      have lr : (plr o p t).length = t.length := by unfold plr; rw [List.length_map]
      rw [len_tvs, ← lr, List.take_length] at pd
      exact k D H7 t (s1.free (s16.free hD)) (s1.trans (s16.trans s7)) ⟨ds, hD7, pd⟩ ct ho hp' lt' zt
theorem scPln : FnScope ["one", "other"] ["one", "other"] (defScope sPln) := ⟨rfl, rfl, rfl, by decide +kernel, rfl, by decide +kernel, by decide +kernel⟩

theorem ok_pln {f fA fR fS C cB cA : Addr} {fd fdA fdR fdS : FuncData} (F : Fun K "plain" "plain" sPln f fd) (dA : Def K mg "apart" sAp ["one", "other"] fA fdA) (GA : FnOk P w K mg base (CXE P w) 4 fA fdA ["one", "other"] (spAp cB)) (dR : Def K mg "plain_rows" sPlr ["one", "other"] fR fdR) (GR : FnOk P w K mg base CX0 2 fR fdR ["one", "other"] spPlr) (dS : Def K mg "swap_of" sSwo ["rows"] fS fdS) (GS : FnOk P w K mg base CX0 8 fS fdS ["rows"] (spSwo K C)) (R : Ref K mg "NotApart" cA) :
    FnOk P w K mg base (CXE P w) 9 f fd ["one", "other"] (spPln K C cB cA) := by
  refine F.okX scPln (fun vs H Q E h => ?_) (fun cdv A outer s H vs Q E hr h => ?_)
  · obtain ⟨a, b, rfl, _⟩ := h
    rfl
  · obtain ⟨a, b, rfl, la, lb, k1, k2, k3⟩ := h
    have hr4 : Room 4 _ := hr.mono (by decide)
    have hr2 : Room 2 _ := hr.mono (by decide)
    refine ⟨_, (pss_cons (ps_if (pt_not (pt_val (pe_call GA hr4 rfl dA.at_ dA.fn.kp dA.bi .nil (XI.pass own_of rfl rfl) (pa_cons (pv 0) (pa_cons (pv 1) pa_nil))))) (pss_one (ps_raise own_of rfl rfl R.at_ R.ex PySem.F.excBase_ValueError (pa_cons pe_str pa_nil))) pss_nil)
        (pss_one (ps_ret (pe_call GS hr rfl dS.at_ dS.fn.kp dS.bi .nil pass0 (pa_cons (pe_call GR hr2 rfl dR.at_ dR.fn.kp dR.bi .nil pass0 (pa_cons (pv 0) (pa_cons (pv 1) pa_nil))) pa_nil))))), ?_⟩
    refine ⟨_, rfl, _, rfl, a, b, rfl, Nat.le_trans la (by decide), Nat.le_trans lb (by decide), fun e => ?_, k3⟩
    rw [Bool.and_eq_true] at e
    obtain ⟨o, rfl, lo⟩ := isH_ex e.1
    obtain ⟨p, rfl, lp⟩ := isH_ex e.2
    by_cases ap : Ap o p
    · obtain ⟨l60, k1⟩ := k1 o p rfl rfl lo lp ap
      rw [(apt_tx o p).mpr ap]
      refine ⟨_, rfl, iteF ?_⟩
      refine ⟨_, rfl, _, rfl, o, p, rfl, ap, l60, fun q H1 t hq s1 nt ct ho hp lt zt => ?_⟩
      have xt := xc_plr ap ct ho hp
      have lr : (plr o p t).length = t.length := by unfold plr; rw [List.length_map]
      have zr : Sz 60 (plr o p t) := fun z hz => by
        obtain ⟨h, hh, rfl⟩ := List.mem_map.mp hz
        refine ⟨zt h hh, ?_⟩
        show (swp o p h).length ≤ 60
        unfold swp
        split
        · exact lp
        · split
          · exact lo
          · exact zt h hh
      refine ⟨q, true, plr o p t, rfl, nt.l.b, xt, by omega, zr.mono (by decide), fun z H2 F hz s2 sw fw lF => ?_⟩
      refine k1 z H2 F (s1.free hz) (s1.trans s2) sw ?_ (by omega) (few_sz fw xt.h.de zr)
      have := fw.a xt
      rw [act_plr ap ct ho hp] at this
      exact this
    · have e0 : apt (tx o) (tx p) = false := by
        rw [← Bool.not_eq_true]
        exact fun z => ap ((apt_tx o p).mp z)
      rw [e0]
      exact ⟨_, rfl, iteT ⟨by decide, k2 o p rfl rfl lo lp ap⟩⟩
end
end Hs

/-! part Hb -/
namespace Hm
/-! ### the law's own one behind another -/
open Classical in
noncomputable def on1 (h : W) (z : W × W) : Tb := if z.1 <+: h then [([], z.2 ++ h.drop z.1.length)] else if h <+: z.1 then [(z.1.drop h.length, z.2)] else []
noncomputable def onw (S : Tb) (h : W) : Tb := S.flatMap (on1 h)
noncomputable def thq (R S : Tb) : Tb := R.flatMap fun z => (onw S z.2).map fun y => (z.1 ++ y.1, y.2)
theorem on1_mem {h : W} {z y : W × W} (m : y ∈ on1 h z) : (z.1 <+: h ∧ y = ([], z.2 ++ h.drop z.1.length)) ∨ (¬ z.1 <+: h ∧ ∃ w, z.1 = h ++ w ∧ y = (w, z.2)) := by
  unfold on1 at m
  by_cases p : z.1 <+: h
  · rw [if_pos p] at m
    exact .inl ⟨p, List.mem_singleton.mp m⟩
  · rw [if_neg p] at m
    by_cases q : h <+: z.1
    · rw [if_pos q] at m
      obtain ⟨w, e⟩ := q
      refine .inr ⟨p, w, e.symm, ?_⟩
      rw [List.mem_singleton.mp m, ← e, List.drop_left]
    · rw [if_neg q] at m
      cases m
theorem on1_anti (h : W) (z : W × W) : Anti (hds (on1 h z)) := by
  unfold on1
  split
  · exact List.pairwise_singleton _ _
  · split
    · exact List.pairwise_singleton _ _
    · exact .nil
theorem ap_cons {h a b : W} (ap : Ap (h ++ a) (h ++ b)) : Ap a b := ⟨fun p => ap.1 ((List.prefix_append_right_inj h).mpr p), fun p => ap.2 ((List.prefix_append_right_inj h).mpr p)⟩
theorem ap_cons' {h a b : W} (ap : Ap a b) : Ap (h ++ a) (h ++ b) := ⟨fun p => ap.1 ((List.prefix_append_right_inj h).mp p), fun p => ap.2 ((List.prefix_append_right_inj h).mp p)⟩
theorem ap_exts {a b : W} (ap : Ap a b) (u v : W) : Ap (a ++ u) (b ++ v) := by
  have key : ∀ {a b u v : W}, Ap a b → ¬ a ++ u <+: b ++ v := fun {a b u v} ap p => by
    rcases List.prefix_or_prefix_of_prefix ((List.prefix_append a u).trans p) (List.prefix_append b v) with q | q
    · exact ap.1 q
    · exact ap.2 q
  exact ⟨key ap, key ap.symm⟩
theorem onw_anti {S : Tb} (an : Anti (hds S)) (h : W) : Anti (hds (onw S h)) := by
  unfold hds onw
  show List.Pairwise Ap _
  rw [List.pairwise_map, List.pairwise_flatMap]
  refine ⟨fun z hz => ?_, ?_⟩
  · have := on1_anti h z
    unfold hds at this
    exact (List.pairwise_map.mp (show List.Pairwise Ap _ from this))
  · have a1 : S.Pairwise fun z z' => Ap z.1 z'.1 := List.pairwise_map.mp (show List.Pairwise Ap (S.map Prod.fst) from an)
    refine a1.imp fun {z z'} ap x hx y hy => ?_
    rcases on1_mem hx with ⟨p, rfl⟩ | ⟨p, w, e, rfl⟩
    · rcases on1_mem hy with ⟨p', _⟩ | ⟨_, w', e', _⟩
      · rcases List.prefix_or_prefix_of_prefix p p' with q | q
        · exact absurd q ap.1
        · exact absurd q ap.2
      · exact absurd (p.trans ⟨w', e'.symm⟩) ap.1
    · rcases on1_mem hy with ⟨p', _⟩ | ⟨_, w', e', rfl⟩
      · exact absurd (p'.trans ⟨w, e.symm⟩) ap.2
      · rw [e, e'] at ap
        exact ap_cons ap
theorem onw_at {S : Tb} (c : Cut (hds S)) (h : W) (q : Row) : ∃ y ∈ onw S h, firstN q y.1.length = y.1 ∧ act S (put h q) = Img y q := by
  obtain ⟨z, m, f⟩ := cov_first c.de (put h q)
  by_cases p : z.1 <+: h
  · refine ⟨([], z.2 ++ h.drop z.1.length), List.mem_flatMap.mpr ⟨z, m, ?_⟩, rfl, ?_⟩
    · unfold on1; rw [if_pos p]; exact .head _
    · rw [act_put c.an m p]; rfl
  · have p' : h <+: z.1 := by
      rcases first_pre f (first_put h q) with e | e
      · exact absurd e p
      · exact e
    obtain ⟨w, e⟩ := id p'
    refine ⟨(w, z.2), List.mem_flatMap.mpr ⟨z, m, ?_⟩, ?_, ?_⟩
    · unfold on1; rw [if_neg p, if_pos p', ← e, List.drop_left]; exact .head _
    · show firstN q w.length = w
      have f2 := f
      rw [← e] at f2
      refine List.ext_getElem? fun i => ?_
      by_cases hi : i < w.length
      · rw [first_get q hi]
        have g := first_get (put h q) (n := (h ++ w).length) (i := i + h.length) (by rw [List.length_append]; omega)
        rw [f2, put_at, List.getElem?_append_right (by omega), Nat.add_sub_cancel] at g
        exact g.symm
      · rw [List.getElem?_eq_none (by rw [first_len]; omega), List.getElem?_eq_none (by omega)]
    · rw [act_at c.an m f]
      unfold Img
      refine congrArg (put z.2) (funext fun i => ?_)
      show put h q (i + z.1.length) = q (i + w.length)
      rw [← e, List.length_append, show i + (h.length + w.length) = i + w.length + h.length by omega, put_at]
theorem anti_grp {R : Tb} {k : W × W → W} {f : W × W → Tb} (ha : R.Pairwise fun z z' => Ap (k z) (k z')) (hf : ∀ z ∈ R, Anti (hds (f z))) : Anti (R.flatMap fun z => (f z).map fun y => k z ++ y.1) := by
  show List.Pairwise Ap _
  rw [List.pairwise_flatMap]
  refine ⟨fun z hz => ?_, ha.imp fun {z z'} ap x hx y hy => ?_⟩
  · rw [List.pairwise_map]
    have := hf z hz
    unfold hds at this
    exact (List.pairwise_map.mp (show List.Pairwise Ap _ from this)).imp fun ap => ap_cons' ap
  · obtain ⟨u, _, rfl⟩ := List.mem_map.mp hx
    obtain ⟨v, _, rfl⟩ := List.mem_map.mp hy
    exact ap_exts ap _ _
theorem hds_thn (R S : Tb) : hds (thq R S) = R.flatMap fun z => (onw S z.2).map fun y => z.1 ++ y.1 := by
  unfold hds thq
  rw [List.map_flatMap]
  congr 1
  funext z
  rw [List.map_map]
  rfl
theorem thq_at {R S : Tb} (xR : Xc R) (xS : Xc S) (q : Row) : ∃ z ∈ thq R S, firstN q z.1.length = z.1 ∧ act S (act R q) = Img z q := by
  obtain ⟨z, m, f⟩ := cov_first xR.h.de q
  obtain ⟨y, my, fy, e⟩ := onw_at xS.h z.2 (fun i => q (i + z.1.length))
  refine ⟨(z.1 ++ y.1, y.2), List.mem_flatMap.mpr ⟨z, m, List.mem_map.mpr ⟨y, my, rfl⟩⟩, ?_, ?_⟩
  · show firstN q (z.1 ++ y.1).length = z.1 ++ y.1
    have e1 := put_back fy
    have e2 := put_back f
    rw [← e2, ← e1, ← put_app']
    exact first_put _ _
  · rw [act_at xR.h.an m f]
    show act S (put z.2 _) = _
    rw [e]
    unfold Img
    refine congrArg (put y.2) (funext fun i => ?_)
    show q (i + y.1.length + z.1.length) = q (i + (z.1 ++ y.1).length)
    rw [List.length_append, show i + y.1.length + z.1.length = i + (z.1.length + y.1.length) by omega]
theorem thq_cut {R S : Tb} (xR : Xc R) (xS : Xc S) : Cut (hds (thq R S)) := by
  constructor
  · rw [hds_thn]
    exact anti_grp (k := Prod.fst) (f := fun z => onw S z.2) (List.pairwise_map.mp (show List.Pairwise Ap (R.map Prod.fst) from xR.h.an)) fun z _ => onw_anti xS.h.an z.2
  · intro q
    obtain ⟨z, m, f, _⟩ := thq_at xR xS q
    exact ⟨z.1, List.mem_map.mpr ⟨z, m, rfl⟩, (un_first _ _).mpr f⟩
theorem thq_act {R S : Tb} (xR : Xc R) (xS : Xc S) : act (thq R S) = fun q => act S (act R q) := funext fun q => by
  obtain ⟨z, m, f, e⟩ := thq_at xR xS q
  rw [act_at (thq_cut xR xS).an m f, e]
/-- what leads rows one to one has others that are a cut -/
theorem ots_cut {T : Tb} {g : Row → Row} (c : Cut (hds T)) (iv : Inv (act T) g) : Cut (ots T) := by
  have key : ∀ {z z' : W × W}, z ∈ T → z' ∈ T → Ap z.1 z'.1 → ¬ z.2 <+: z'.2 := fun {z z'} m m' ap ⟨w, e⟩ => by
    have e1 : act T (put z'.1 fun _ => false) = act T (put z.1 (put w fun _ => false)) := by
      rw [act_at c.an m' (first_put _ _), act_at c.an m (first_put _ _)]
      unfold Img
      rw [funext fun i => put_at z'.1 _ i, funext fun i => put_at z.1 _ i, ← put_app', e]
    have e2 := congrArg g e1
    rw [iv.1, iv.1] at e2
    rcases put_cmp e2 with p | p
    · exact ap.2 p
    · exact ap.1 p
  constructor
  · unfold ots
    show List.Pairwise Ap _
    rw [List.pairwise_map]
    have a1 : T.Pairwise fun z z' => Ap z.1 z'.1 := List.pairwise_map.mp (show List.Pairwise Ap (T.map Prod.fst) from c.an)
    exact a1.imp_of_mem fun {z z'} m m' ap => ⟨key m m' ap, key m' m ap.symm⟩
  · intro r
    obtain ⟨z, m, f⟩ := cov_first c.de (g r)
    refine ⟨z.2, List.mem_map.mpr ⟨z, m, rfl⟩, (un_first _ _).mpr ?_⟩
    have e := act_at c.an m f
    rw [iv.2] at e
    rw [e]
    exact first_put _ _
theorem Inv.comp {a b c d : Row → Row} (h : Inv a b) (h' : Inv c d) : Inv (fun q => c (a q)) (fun q => b (d q)) := ⟨fun q => by show b (d (c (a q))) = q; rw [h'.1, h.1], fun q => by show c (a (b (d q))) = q; rw [h.2, h'.2]⟩
theorem thq_xc {R S : Tb} (xR : Xc R) (xS : Xc S) : Xc (thq R S) := by
  refine ⟨thq_cut xR xS, ots_cut (g := fun q => act (tn R) (act (tn S) q)) (thq_cut xR xS) ?_⟩
  rw [thq_act xR xS]
  exact (inv_tn xR).comp (inv_tn xS)
theorem thq_len {R S : Tb} (xR : Xc R) (xS : Xc S) : (thq R S).length ≤ R.length + S.length := by
  have e : (thq R S).length = (R.flatMap fun z => (onw S z.2).map fun y => z.2 ++ y.1).length := by
    unfold thq
    rw [List.length_flatMap, List.length_flatMap]
    simp only [List.length_map]
  rw [e]
  have an : Anti (R.flatMap fun z => (onw S z.2).map fun y => z.2 ++ y.1) := anti_grp (k := Prod.snd) (f := fun z => onw S z.2) (List.pairwise_map.mp (show List.Pairwise Ap (R.map Prod.snd) from xR.o.an)) fun z _ => onw_anti xS.h.an z.2
  have := nodup_le (m := ots R ++ hds S) an.nodup fun x hx => by
    obtain ⟨z, hz, hx⟩ := List.mem_flatMap.mp hx
    obtain ⟨y, hy, rfl⟩ := List.mem_map.mp hx
    obtain ⟨s, hs, hy⟩ := List.mem_flatMap.mp hy
    rcases on1_mem hy with ⟨_, rfl⟩ | ⟨_, w, e, rfl⟩
    · rw [List.append_nil]
      exact List.mem_append_left _ (List.mem_map.mpr ⟨z, hz, rfl⟩)
    · rw [← e]
      exact List.mem_append_right _ (List.mem_map.mpr ⟨s, hs, rfl⟩)
  rw [List.length_append] at this
  unfold ots hds at this
  rw [List.length_map, List.length_map] at this
  exact this
theorem sum_one {α β : Type} (f : α → List β) : ∀ {S : List α}, (∀ z ∈ S, (f z).length ≤ 1) → (S.map fun a => (f a).length).sum ≤ S.length
  | [], _ => Nat.le_refl _
  | z :: S, h => by
    have h1 := h z (.head _)
    have h2 := sum_one f (S := S) fun y hy => h y (.tail _ hy)
    rw [List.map_cons, List.sum_cons, List.length_cons]
    omega
theorem onw_len (S : Tb) (h : W) : (onw S h).length ≤ S.length := by
  unfold onw
  rw [List.length_flatMap]
  have : ∀ z ∈ S, (on1 h z).length ≤ 1 := fun z _ => by
    unfold on1
    split
    · exact Nat.le_refl _
    · split
      · exact Nat.le_refl _
      · exact Nat.zero_le _
  exact sum_one _ this
theorem onw_sz {S : Tb} {h : W} {n m : Nat} (z : ∀ q ∈ S, q.1.length ≤ n ∧ q.2.length ≤ n) (hl : h.length ≤ m) : ∀ y ∈ onw S h, y.1.length ≤ n ∧ y.2.length ≤ n + m := fun y hy => by
  obtain ⟨s, hs, hy⟩ := List.mem_flatMap.mp hy
  have := z s hs
  rcases on1_mem hy with ⟨_, rfl⟩ | ⟨_, w, e, rfl⟩
  · refine ⟨Nat.zero_le _, ?_⟩
    show (s.2 ++ h.drop s.1.length).length ≤ _
    rw [List.length_append, List.length_drop]
    omega
  · refine ⟨?_, by show s.2.length ≤ _; omega⟩
    rw [e, List.length_append] at this
    show w.length ≤ n
    omega
theorem thq_sz {R S : Tb} {m n : Nat} (z : ∀ q ∈ R, q.1.length ≤ m ∧ q.2.length ≤ m) (z' : ∀ q ∈ S, q.1.length ≤ n ∧ q.2.length ≤ n) : ∀ y ∈ thq R S, y.1.length ≤ m + n ∧ y.2.length ≤ m + n := fun y hy => by
  obtain ⟨r, hr, hy⟩ := List.mem_flatMap.mp hy
  obtain ⟨u, hu, rfl⟩ := List.mem_map.mp hy
  have a := z r hr
  have b := onw_sz z' a.2 u hu
  refine ⟨?_, by show u.2.length ≤ _; omega⟩
  show (r.1 ++ u.1).length ≤ _
  rw [List.length_append]
  omega
end Hm

/-! part K14lth -/
set_option Elab.async false
set_option linter.all false
set_option maxRecDepth 100000
set_option maxHeartbeats 2000000
namespace Hs
open PySem L2 Hm
abbrev sOnw : Stmt := top 72
abbrev sLth : Stmt := top 73
abbrev sLbk : Stmt := top 74
def spOnw (K : PySem.W.Frag) : Sp := fun vs H Q _ => ∃ (a : Addr) (S : Tb) (h : W), vs = [.ref a, tv h] ∧ LT K H a S ∧ S.length ≤ 100 ∧ Sz 1000 S ∧ h.length ≤ 1000 ∧ ∀ p H', H p = none → Same H H' → NT H' p (onw S h) → Q (.ref p) H'
def spLth (K : PySem.W.Frag) : Sp := fun vs H Q _ => ∃ (a c : Addr) (R S : Tb) (m n : Nat), vs = [.ref a, .ref c] ∧ LT K H a R ∧ LT K H c S ∧ Xc R ∧ Xc S ∧ R.length + S.length < 64 ∧ Sz m R ∧ Sz n S ∧ m + n ≤ 1000 ∧
  ∀ p H' G, H p = none → Same H H' → NT H' p G → FewA (fun q => act S (act R q)) G → G.length ≤ R.length + S.length → Sz (m + n) G → Q (.ref p) H'
def spLbk (K : PySem.W.Frag) : Sp := fun vs H Q _ => ∃ (a : Addr) (S : Tb) (m : Nat), vs = [.ref a] ∧ LT K H a S ∧ Xc S ∧ S.length < 64 ∧ Sz m S ∧ m ≤ 1000 ∧ ∀ p H' G, H p = none → Same H H' → NT H' p G → FewA (act (tn S)) G → G.length ≤ S.length → Sz m G → Q (.ref p) H'
theorem onw_take {S : Tb} {h : W} {i : Nat} {z : W × W} (e : S[i]? = some z) : onw (S.take (i + 1)) h = onw (S.take i) h ++ on1 h z := by
  unfold onw
  rw [List.take_add_one, e, List.flatMap_append]
  simp
theorem thq_take {R S : Tb} {i : Nat} {z : W × W} (e : R[i]? = some z) : thq (R.take (i + 1)) S = thq (R.take i) S ++ (onw S z.2).map fun y => (z.1 ++ y.1, y.2) := by
  unfold thq
  rw [List.take_add_one, e, List.flatMap_append]
  simp
theorem thq_pre (R S : Tb) (i : Nat) : (thq (R.take i) S).length ≤ (thq R S).length := by
  have e : thq R S = thq (R.take i) S ++ thq (R.drop i) S := by
    unfold thq
    rw [← List.flatMap_append, List.take_append_drop]
  rw [e, List.length_append]
  omega
section
variable {P : Program} {w : World} {K : PySem.W.Frag} {mg : Str → Option Value} {base : Heap}
abbrev NOn : List Str := ["_law_rows_here", "_law_head", "_law_found", "_law_one", "_law_other"]
theorem scOn : FnScope NOn ["_law_rows_here", "_law_head"] (defScope sOnw) := ⟨rfl, rfl, rfl, by decide +kernel, rfl, by decide +kernel, by decide +kernel⟩




theorem ok_onw {f : Addr} {fd : FuncData} (F : Fun K "_law_onward" "_law_onward" sOnw f fd) (T : Txt mg) : FnOk P w K mg base CX0 1 f fd ["_law_rows_here", "_law_head"] (spOnw K) := by
  refine F.ok scOn (fun vs H Q E h => ?_) (fun cdv A outer s H vs Q E hr h => ?_)
  · obtain ⟨a, S, h, rfl, _⟩ := h
    rfl
  · obtain ⟨a, S, h, rfl, ⟨ps, ha, hps⟩, lS, zS, lh, k⟩ := h
    refine ⟨_, (pss_cons (ps_set (i := 2) scOn.nd rfl (Or.inl rfl) (pe_lst pa_nil))
        (pss_cons (ps_for PassesOwn.never rfl (pi_list (pv 0)) (pg_tup rfl (pgs_cons (pg_name (i := 3) scOn.nd rfl (Or.inl rfl)) (pgs_cons (pg_name (i := 4) scOn.nd rfl (Or.inl rfl)) pgs_nil))) (pss_one (ps_if (pt_val (pe_m1 PySem.F.slot_str_startswith PySem.F.type_str_startswith mt_startswith (pv 1) (pv 3))) (pss_one (ps_expr (pe_bm PySem.F.plainAttrs_list PySem.F.slot_list_append PySem.F.type_list_append mt_append (pv 2) (pa_cons (pe_tup (pa_cons pe_str (pa_cons (pe_op op_add_str (pv 4) (pe_slice sl_str (pv 1) (po_some (pe_callB call_len_str (by rfl) T.len PySem.boot_len (pa_cons (pv 3) pa_nil))) po_none)) pa_nil))) pa_nil)))) (pss_one (ps_if (pt_val (pe_m1 PySem.F.slot_str_startswith PySem.F.type_str_startswith mt_startswith (pv 3) (pv 1))) (pss_one (ps_expr (pe_bm PySem.F.plainAttrs_list PySem.F.slot_list_append PySem.F.type_list_append mt_append (pv 2) (pa_cons (pe_tup (pa_cons (pe_slice sl_str (pv 3) (po_some (pe_callB call_len_str (by rfl) T.len PySem.boot_len (pa_cons (pv 1) pa_nil))) po_none) (pa_cons (pv 4) pa_nil))) pa_nil)))) pss_nil)))))
        (pss_one (ps_ret (pv 2))))), ?_⟩
    have big : ∀ {m : Nat}, m ≤ 100000 → m ≤ sizeLine := fun h => Nat.le_trans h (by decide)
    refine ⟨by show 0 ≤ sizeLine; decide, fun p hp => ?_⟩
    have s1 : Same H (upd H p (.lst [])) := Same.new hp
    refine ⟨_, rfl, a, rfl, ⟨_, SqL.of (s1 _ _ ha)⟩, for_list (K := K) (a := a) (xs := ps.map V.ref) (fun i σ H1 => ∃ o3 o4, σ = [some (.ref a), some (tv h), some (.ref p), o3, o4] ∧ Same H H1 ∧ NT H1 p (onw (S.take i) h)) ⟨none, none, rfl, s1, [], upd_same, .nil⟩ (fun i σ H1 _ ⟨_, _, _, e, _⟩ => SqL.of (e _ _ ha)) ?_ ?_⟩
    · rintro i x σ H1 hx ⟨o3, o4, rfl, sm, qs, hp1, pq⟩
      rw [List.getElem?_map, Option.map_eq_some_iff] at hx
      obtain ⟨r, hr', rfl⟩ := hx
      obtain ⟨z, hz, sz⟩ := (PTs.keep (.of sm) hps).at i hr'
      have zz := zS z (List.mem_of_getElem? hz)
      have hi := (List.getElem?_eq_some_iff.mp hz).1
      have lq := pq.len
      have lo := onw_len (S.take i) h
      rw [List.length_take] at lo
      -- a pair more
      have put : ∀ (y : W × W) (t : Addr), H1 t = none → on1 h z = [y] → ∃ o3 o4, ([some (.ref a), some (tv h), some (.ref p), some (tv z.1), some (tv z.2)] : L2.St) = [some (.ref a), some (tv h), some (.ref p), o3, o4] ∧ Same H (upd (upd H1 t (.tup [tv y.1, tv y.2])) p (.lst (qs.map V.ref ++ [.ref t]))) ∧ NT (upd (upd H1 t (.tup [tv y.1, tv y.2])) p (.lst (qs.map V.ref ++ [.ref t]))) p (onw (S.take (i + 1)) h) := fun y t ht ey => by
        have st : Same H1 (upd H1 t (.tup [tv y.1, tv y.2])) := Same.new ht
        have kp : KpT H1 (upd (upd H1 t (.tup [tv y.1, tv y.2])) p (.lst (qs.map V.ref ++ [.ref t]))) := (KpT.of st).trans (KpT.set (st _ _ hp1) (fun _ z => nomatch z) (fun _ _ z => nomatch z))
        refine ⟨_, _, rfl, fun c o e => by rw [upd_ne (ne_of_none e hp)]; exact st _ _ (sm _ _ e), qs ++ [t], by rw [upd_same, List.map_append]; rfl, ?_⟩
        rw [onw_take hz, ey]
        refine (PTn.keep kp pq).app (.cons ?_ .nil)
        show (upd _ p _) t = _
        rw [upd_ne (ne_of_none hp1 ht).symm]
        exact upd_same
      refine ⟨r, _, rfl, sz, rfl, _, _, rfl, _, _, rfl, rfl, ?_⟩
      refine ⟨_, rfl, ⟨_, rfl⟩, _, rfl, _, _, rfl, rfl, _, rfl, ?_⟩
      rw [starts_txd]
      by_cases q : z.1 <+: h
      · rw [decide_eq_true q]
        refine iteT ⟨_, rfl, .inl ⟨rfl, _, SqL.of hp1⟩, _, rfl, _, rfl, _, rfl, _, rfl, by rw [tx_len]; exact big (by omega), _, rfl, _, rfl, by rw [tx_len]; exact big (by omega), ?_⟩
        rw [tx_len, cut_drop]
        refine ⟨_, _, rfl, rfl, by rw [tx_len, tx_len, List.length_drop]; exact big (by omega), by show 2 ≤ sizeLine; decide, fun t ht => ?_⟩
        rw [tx_app]
        have et : (Str.ofString "") = tx [] := tx_nil.symm
        rw [et]
        refine ⟨p, _, _, rfl, rfl, (Same.new ht) _ _ hp1, by rw [List.length_map]; exact small1000 (by omega), ?_⟩
        exact put ([], z.2 ++ h.drop z.1.length) t ht (by unfold on1; rw [if_pos q])
      · rw [decide_eq_false q]
        refine iteF ⟨_, rfl, ⟨_, rfl⟩, _, rfl, _, _, rfl, rfl, _, rfl, ?_⟩
        rw [starts_txd]
        by_cases q' : h <+: z.1
        · rw [decide_eq_true q']
          refine iteT ⟨_, rfl, .inl ⟨rfl, _, SqL.of hp1⟩, _, rfl, _, rfl, _, rfl, by rw [tx_len]; exact big (by omega), _, rfl, _, rfl, by rw [tx_len]; exact big (by omega), ?_⟩
          rw [tx_len, cut_drop]
          refine ⟨_, rfl, by show 2 ≤ sizeLine; decide, fun t ht => ?_⟩
          refine ⟨p, _, _, rfl, rfl, (Same.new ht) _ _ hp1, by rw [List.length_map]; exact small1000 (by omega), ?_⟩
          exact put (z.1.drop h.length, z.2) t ht (by unfold on1; rw [if_neg q, if_pos q'])
        · rw [decide_eq_false q']
          refine iteF ⟨_, _, rfl, sm, qs, hp1, ?_⟩
          have e0 : on1 h z = [] := by unfold on1; rw [if_neg q, if_neg q']
          rw [onw_take hz, e0, List.append_nil]
          exact pq
    · rintro σ H1 ⟨o3, o4, rfl, sm, nt⟩
      rw [List.length_map, hps.len, List.take_length] at nt
      exact ⟨_, rfl, k p H1 hp sm nt⟩
abbrev NTh : List Str := ["_law_first", "_law_second", "_law_found", "_law_head", "_law_other", "_law_more", "_law_goal"]
theorem scTh : FnScope NTh ["_law_first", "_law_second"] (defScope sLth) := ⟨rfl, rfl, rfl, by decide +kernel, rfl, by decide +kernel, by decide +kernel⟩

theorem ok_lth {f fO fW : Addr} {fd fdO fdW : FuncData} (F : Fun K "_law_then" "_law_then" sLth f fd) (dO : Def K mg "_law_onward" sOnw ["_law_rows_here", "_law_head"] fO fdO) (dW : Def K mg "_law_few" sLfew ["_law_rows_here"] fW fdW) (T : Txt mg) : FnOk P w K mg base CX0 2 f fd ["_law_first", "_law_second"] (spLth K) := by
  have GO : FnOk P w K mg base CX0 1 fO fdO ["_law_rows_here", "_law_head"] (spOnw K) := ok_onw dO.fn T
  have GW : FnOk P w K mg base CX0 1 fW fdW ["_law_rows_here"] (spLfew K) := ok_lfew dW.fn T
  refine F.ok scTh (fun vs H Q E h => ?_) (fun cdv A outer s H vs Q E hr h => ?_)
  · obtain ⟨a, c, R, S, m, n, rfl, _⟩ := h
    rfl
  · obtain ⟨a, c, R, S, m, n, rfl, ⟨ps, ha, hps⟩, ltS, xR, xS, l64, zR, zS, mn, k⟩ := h
    refine ⟨_, (pss_cons (ps_set (i := 2) scTh.nd rfl (Or.inl rfl) (pe_lst pa_nil))
        (pss_cons (ps_for PassesOwn.never rfl (pi_list (pv 0)) (pg_tup rfl (pgs_cons (pg_name (i := 3) scTh.nd rfl (Or.inr rfl)) (pgs_cons (pg_name (i := 4) scTh.nd rfl (Or.inl rfl)) pgs_nil))) (pss_one (ps_expr (pe_bm PySem.F.plainAttrs_list PySem.F.slot_list_extend PySem.F.type_list_extend mt_extend (pv 2) (pa_cons (pe_lc (own := [("_law_more", 5), ("_law_goal", 6)]) (g := gTup K 2 (gCons (gName 5) (gCons (gName 6) gNil))) (by rfl) scTh.nd (pi_list (pe_call GO hr rfl dO.at_ dO.fn.kp dO.bi .nil pass0 (pa_cons (pv 1) (pa_cons (pv 4) pa_nil)))) (blkOk_by (own := [("_law_more", 5), ("_law_goal", 6)]) (N := NTh) (sc := defScope sLth) (by decide +kernel)) (fun _ _ _ _ _ => pg_tup rfl (pgs_cons (pg_name (i := 5) scTh.nd rfl (Or.inl rfl)) (pgs_cons (pg_name (i := 6) scTh.nd rfl (Or.inl rfl)) pgs_nil))) (fun _ _ _ _ _ => pts_nil) (fun _ _ _ _ _ => pe_tup (pa_cons (pe_op op_add_str (pv 3) (pv 5)) (pa_cons (pv 6) pa_nil)))) pa_nil)))))
        (pss_one (ps_ret (pe_call GW hr rfl dW.at_ dW.fn.kp dW.bi .nil pass0 (pa_cons (pv 2) pa_nil)))))), ?_⟩
    have big : ∀ {m : Nat}, m ≤ 100000 → m ≤ sizeLine := fun h => Nat.le_trans h (by decide)
    have lth := thq_len xR xS
    refine ⟨by show 0 ≤ sizeLine; decide, fun p hp => ?_⟩
    have s1 : Same H (upd H p (.lst [])) := Same.new hp
    refine ⟨_, rfl, a, rfl, ⟨_, SqL.of (s1 _ _ ha)⟩, for_list (K := K) (a := a) (xs := ps.map V.ref) (fun i σ H1 => ∃ o3 o4, σ = [some (.ref a), some (.ref c), some (.ref p), o3, o4, none, none] ∧ Same H H1 ∧ NT H1 p (thq (R.take i) S)) ⟨none, none, rfl, s1, [], upd_same, .nil⟩ (fun i σ H1 _ ⟨_, _, _, e, _⟩ => SqL.of (e _ _ ha)) ?_ ?_⟩
    · rintro i x σ H1 hx ⟨o3, o4, rfl, sm, qs, hp1, pq⟩
      rw [List.getElem?_map, Option.map_eq_some_iff] at hx
      obtain ⟨r, hr', rfl⟩ := hx
      obtain ⟨z, hz, sz⟩ := (PTs.keep (.of sm) hps).at i hr'
      have zz := zR z (List.mem_of_getElem? hz)
      have lq := pq.len
      have lo := onw_len S z.2
      have lp := thq_pre R S i
      refine ⟨r, _, rfl, sz, rfl, _, _, rfl, _, _, rfl, rfl, ?_⟩
      refine ⟨_, rfl, .inl ⟨rfl, _, SqL.of hp1⟩, _, rfl, _, rfl, c, S, z.2, rfl, ltS.same sm, by omega, zS.mono (by omega), by omega, fun o H2 ho s2 nt2 => ?_⟩
      obtain ⟨os, eo, po⟩ := id nt2
      have los := po.len
      refine ⟨o, rfl, ⟨_, SqL.of eo⟩, fun D hD => ?_⟩
      refine lc_list (K := K) (a := o) (xs := os.map V.ref) (fun j H3 => Same H2 H3 ∧ ∃ ds : List Addr, H3 D = some (.lst (ds.map V.ref)) ∧ PTn H3 ds (((onw S z.2).take j).map fun y => (z.1 ++ y.1, y.2))) ⟨Same.new hD, [], upd_same, .nil⟩ (fun j H3 _ q => SqL.of (q.1 _ _ eo)) ?_ ?_
      · rintro j v H3 hv ⟨s3, ds, hD3, pd⟩
        rw [List.getElem?_map, Option.map_eq_some_iff] at hv
        obtain ⟨q, hq, rfl⟩ := hv
        obtain ⟨y, hy, ey⟩ := (PTn.keep (.of s3) po).at j hq
        have zy := onw_sz zS zz.2 y (List.mem_of_getElem? hy)
        have hj := (List.getElem?_eq_some_iff.mp hy).1
        refine ⟨q, _, rfl, SqT.of ey, rfl, _, _, rfl, _, _, rfl, rfl, rfl, _, rfl, _, rfl, _, _, rfl, rfl, by rw [tx_len, tx_len]; exact big (by omega), ?_⟩
        rw [tx_app]
        refine ⟨_, rfl, by show 2 ≤ sizeLine; decide, fun t ht => ?_⟩
        have st : Same H3 (upd H3 t (.tup [tv (z.1 ++ y.1), tv y.2])) := Same.new ht
        have kk := KpT.set (o' := .lst (ds.map V.ref ++ [.ref t])) (st _ _ hD3) (fun _ z => nomatch z) (fun _ _ z => nomatch z)
        have ld := pd.len
        rw [List.length_map, List.length_take] at ld
        refine ⟨_, st _ _ hD3, by rw [List.length_map]; exact small1000 (by omega), fun c o e => ?_, ds ++ [t], by rw [upd_same, List.map_append]; rfl, ?_⟩
        · rw [upd_ne (ne_of_none e hD)]; exact st _ _ (s3 _ _ e)
        · rw [List.take_add_one, hy, List.map_append]
          exact (PTn.keep ((KpT.of st).trans kk) pd).app (.cons (kk.t _ _ upd_same) .nil)
      rintro H3 ⟨s3, ds, hD3, pd⟩
      rw [List.length_map, los, List.take_length] at pd
      have ld := pd.len
      rw [List.length_map] at ld
      have hp3 := s3 _ _ (s2 _ _ hp1)
      refine ⟨p, D, _, _, rfl, rfl, hp3, hD3, by rw [List.length_map, List.length_map]; exact big (by omega), ?_⟩
      have kk := KpT.set (o' := .lst (qs.map V.ref ++ ds.map V.ref)) hp3 (fun _ z => nomatch z) (fun _ _ z => nomatch z)
      refine ⟨_, _, rfl, fun c o e => by rw [upd_ne (ne_of_none e hp)]; exact s3 _ _ (s2 _ _ (sm _ _ e)), qs ++ ds, by rw [upd_same, List.map_append], ?_⟩
      rw [thq_take hz]
      exact (PTn.keep ((KpT.of (s2.trans s3)).trans kk) pq).app (PTn.keep kk pd)
    · rintro σ H1 ⟨o3, o4, rfl, sm, nt⟩
      rw [List.length_map, hps.len, List.take_length] at nt
      have xt := thq_xc xR xS
      have zt : Sz (m + n) (thq R S) := thq_sz zR zS
      refine ⟨_, rfl, p, thq R S, rfl, nt.l, xt, by omega, zt.mono (by omega), fun p2 H2 G hp2 s2 ntG fw lG zG => ?_⟩
      refine k p2 H2 G (sm.free hp2) (sm.trans s2) ntG ?_ (by omega) (few_sz fw xt.h.de zt)
      have := fw.a xt
      rw [thq_act xR xS] at this
      exact this
abbrev NBk : List Str := ["_law_rows_here", "_law_head", "_law_other"]
theorem scBk : FnScope NBk ["_law_rows_here"] (defScope sLbk) := ⟨rfl, rfl, rfl, by decide +kernel, rfl, by decide +kernel, by decide +kernel⟩

theorem ok_lbk {f fW : Addr} {fd fdW : FuncData} (F : Fun K "_law_back" "_law_back" sLbk f fd) (dW : Def K mg "_law_few" sLfew ["_law_rows_here"] fW fdW) (T : Txt mg) : FnOk P w K mg base CX0 2 f fd ["_law_rows_here"] (spLbk K) := by
  have GW : FnOk P w K mg base CX0 1 fW fdW ["_law_rows_here"] (spLfew K) := ok_lfew dW.fn T
  refine F.ok scBk (fun vs H Q E h => ?_) (fun cdv A outer s H vs Q E hr h => ?_)
  · obtain ⟨a, S, m, rfl, _⟩ := h
    rfl
  · obtain ⟨a, S, m, rfl, ⟨ps, ha, hps⟩, xc, lS, zS, hm, k⟩ := h
    refine ⟨_, (pss_one (ps_ret (pe_call GW hr rfl dW.at_ dW.fn.kp dW.bi .nil pass0 (pa_cons (pe_lc (own := [("_law_head", 1), ("_law_other", 2)]) (g := gTup K 2 (gCons (gName 1) (gCons (gName 2) gNil))) (by rfl) scBk.nd (pi_list (pv 0)) (blkOk_by (own := [("_law_head", 1), ("_law_other", 2)]) (N := NBk) (sc := defScope sLbk) (by decide +kernel)) (fun _ _ _ _ _ => pg_tup rfl (pgs_cons (pg_name (i := 1) scBk.nd rfl (Or.inl rfl)) (pgs_cons (pg_name (i := 2) scBk.nd rfl (Or.inl rfl)) pgs_nil))) (fun _ _ _ _ _ => pts_nil) (fun _ _ _ _ _ => pe_tup (pa_cons (pv 2) (pa_cons (pv 1) pa_nil)))) pa_nil)))), ?_⟩
    refine ⟨_, rfl, a, rfl, ⟨_, SqL.of ha⟩, fun D hD => ?_⟩
    refine lc_list (K := K) (a := a) (xs := ps.map V.ref) (fun i H1 => Same H H1 ∧ ∃ qs : List Addr, H1 D = some (.lst (qs.map V.ref)) ∧ PTn H1 qs ((tn S).take i)) ⟨Same.new hD, [], upd_same, .nil⟩ (fun i H1 _ z => SqL.of (z.1 _ _ ha)) ?_ ?_
    · rintro i x H1 hx ⟨sm, qs, hD1, hqs⟩
      rw [List.getElem?_map, Option.map_eq_some_iff] at hx
      obtain ⟨r, hr', rfl⟩ := hx
      obtain ⟨z, hz, sz⟩ := (PTs.keep (.of sm) hps).at i hr'
      refine ⟨r, _, rfl, sz, rfl, _, _, rfl, _, _, rfl, rfl, rfl, _, rfl, _, rfl, by show 2 ≤ sizeLine; decide, fun t ht => ?_⟩
      have st : Same H1 (upd H1 t (.tup [tv z.2, tv z.1])) := Same.new ht
      have ld := hqs.len
      rw [List.length_take] at ld
      have ltn : (tn S).length = S.length := by unfold tn; rw [List.length_map]
      have ez : (tn S)[i]? = some (z.2, z.1) := by unfold tn; rw [List.getElem?_map, hz]; rfl
      have kk := KpT.set (o' := .lst (qs.map V.ref ++ [.ref t])) (st _ _ hD1) (fun _ z => nomatch z) (fun _ _ z => nomatch z)
      refine ⟨_, st _ _ hD1, by rw [List.length_map]; exact small1000 (by omega), fun c o e => ?_, qs ++ [t], by rw [upd_same, List.map_append]; rfl, ?_⟩
      · rw [upd_ne (ne_of_none e hD)]; exact st _ _ (sm _ _ e)
      · rw [List.take_add_one, ez]
        exact (PTn.keep ((KpT.of st).trans kk) hqs).app (.cons (kk.t _ _ upd_same) .nil)
    rintro H1 ⟨sm, qs, hD1, hqs⟩
    have ltn : (tn S).length = S.length := by unfold tn; rw [List.length_map]
    rw [List.length_map, hps.len, ← ltn, List.take_length] at hqs
    have zt : Sz m (tn S) := fun z hz => by
      obtain ⟨y, hy, rfl⟩ := List.mem_map.mp hz
      exact ⟨(zS y hy).2, (zS y hy).1⟩
    refine ⟨D, tn S, rfl, ⟨qs, hD1, PTn.s hqs⟩, xc_tn xc, by omega, zt.mono hm, fun p2 H2 G hp2 s2 ntG fw lG zG => ?_⟩
    exact k p2 H2 G (sm.free hp2) (sm.trans s2) ntG (fw.a (xc_tn xc)) (by omega) (few_sz fw (xc_tn xc).h.de zt)
end
end Hs

/-! part K14far -/
set_option Elab.async false
set_option linter.all false
set_option maxRecDepth 100000
set_option maxHeartbeats 1000000
namespace Hs
open PySem L2 Hm
abbrev sFar : Stmt := top 67
def spFar : Sp := fun vs H Q _ => ∃ (b la : Addr), vs = [.ref b] ∧ Box H b la ∧ ∀ (z : Int) H', (z = -1 ∨ 4000 < z ∨ z < -4000) → But b H H' → Box H' b la → Q (.int z) H'
section
variable {P : Program} {w : World} {K : PySem.W.Frag} {mg : Str → Option Value} {base : Heap}
theorem scFar : FnScope ["_law_box"] ["_law_box"] (defScope sFar) := ⟨rfl, rfl, rfl, by decide +kernel, rfl, by decide +kernel, by decide +kernel⟩
theorem ok_far {f fD : Addr} {fd fdD : FuncData} (F : Fun K "_law_far" "_law_far" sFar f fd) (dD : Def K mg "_law_draw" sDraw ["_law_box", "_law_many"] fD fdD) (T : Txt mg) : FnOk P w K mg base CX0 2 f fd ["_law_box"] spFar := by
  have GD : FnOk P w K mg base CX0 1 fD fdD ["_law_box", "_law_many"] spDraw := ok_draw dD.fn T
  refine F.ok scFar (fun vs H Q E h => ?_) (fun cdv A outer s H vs Q E hr h => ?_)
  · obtain ⟨b, la, rfl, _⟩ := h
    rfl
  · obtain ⟨b, la, rfl, B, k⟩ := h
    refine ⟨_, pss_one (ps_ret (pe_ix ix_list (pe_lst (pa_cons (pe_un un_neg pe_int) (pa_cons pe_int (pa_cons (pe_op op_pow pe_int pe_int) (pa_cons (pe_un un_neg (pe_op op_pow pe_int pe_int)) (pa_cons (pe_op op_add pe_int (pe_call GD hr rfl dD.at_ dD.fn.kp dD.bi .nil pass0 (pa_cons (pv 0) (pa_cons (pe_op op_pow pe_int pe_int) pa_nil)))) pa_nil))))))
      (pe_call GD hr rfl dD.at_ dD.fn.kp dD.bi .nil pass0 (pa_cons (pv 0) (pa_cons pe_int pa_nil))) (fun _ _ => rfl))), ?_⟩
    have cp20 : CPow 10 20 := ⟨by decide, by decide, by decide⟩
    have cp9 : CPow 10 9 := ⟨by decide, by decide, by decide⟩
    have e9 : (10 : Int) ^ (9 : Int).toNat = 1000000000 := by decide
    refine ⟨_, rfl, _, _, rfl, rfl, cp20, _, _, rfl, rfl, cp20, _, rfl, _, rfl, _, _, rfl, rfl, cp9, b, la, _, rfl, B, by rw [e9]; decide, by rw [e9]; decide, fun r1 H1 p1 q1 kp1 B1 => ?_⟩
    refine ⟨_, _, rfl, rfl, by show 5 ≤ sizeLine; decide, fun l hl => ?_⟩
    have n1 := B1.new hl
    have B2 := B1.upd (o := .lst [.int (-1), .int 4001, .int (10 ^ (20 : Int).toNat), .int (-(10 ^ (20 : Int).toNat)), .int (5000 + r1)]) n1.1 n1.2
    refine ⟨_, rfl, b, la, _, rfl, B2, by decide, by decide, fun r3 H3 p3 q3 kp3 B3 => ?_⟩
    have hl3 := kp3 _ _ n1.1 (upd_same : (upd H1 l (.lst [.int (-1), .int 4001, .int (10 ^ (20 : Int).toNat), .int (-(10 ^ (20 : Int).toNat)), .int (5000 + r1)])) l = _)
    have kp : But b H H3 := (kp1.trans (But.new hl)).trans kp3
    obtain ⟨v, hv, ev⟩ := atI_mem (l := [.int (-1), .int 4001, .int (10 ^ (20 : Int).toNat), .int (-(10 ^ (20 : Int).toNat)), .int (5000 + r1)]) p3 (by simpa using q3)
    refine ⟨l, _, _, _, rfl, rfl, SqL.of hl3, ev, ?_⟩
    have e20 : (10 : Int) ^ (20 : Int).toNat = 100000000000000000000 := by decide
    rw [e20] at hv
    simp at hv
    rcases hv with rfl | rfl | rfl | rfl | rfl <;> exact k _ H3 (by omega) kp B3
end
end Hs

/-! part K14lpo -/
set_option Elab.async false
set_option linter.all false
set_option maxRecDepth 100000
set_option maxHeartbeats 2000000
namespace Hs
open PySem L2 Hm
abbrev sLpo : Stmt := top 75
def spLpo (K : PySem.W.Frag) : Sp := fun vs H Q _ => ∃ (a : Addr) (S : Tb) (z : Int), vs = [.ref a, .int z] ∧ NT H a S ∧ Xc S ∧ S.length ≤ 5 ∧ Sz 5 S ∧ -6 ≤ z ∧ z ≤ 6 ∧
  ∀ p H' G, H p = none → Same H H' → NT H' p G → FewA (zp (act S) (act (tn S)) z) G → G.length ≤ 31 → Sz 30 G → Q (.ref p) H'
section
variable {P : Program} {w : World} {K : PySem.W.Frag} {mg : Str → Option Value} {base : Heap}
abbrev NPo : List Str := ["_law_rows_here", "_law_many", "_law_found", "_law_step"]
theorem scPo : FnScope NPo ["_law_rows_here", "_law_many"] (defScope sLpo) := ⟨rfl, rfl, rfl, by decide +kernel, rfl, by decide +kernel, by decide +kernel⟩

theorem ok_lpo {f fT fO fB fW : Addr} {fd fdT fdO fdB fdW : FuncData} (F : Fun K "_law_power" "_law_power" sLpo f fd) (dT : Def K mg "_law_then" sLth ["_law_first", "_law_second"] fT fdT) (dO : Def K mg "_law_onward" sOnw ["_law_rows_here", "_law_head"] fO fdO) (dB : Def K mg "_law_back" sLbk ["_law_rows_here"] fB fdB) (dW : Def K mg "_law_few" sLfew ["_law_rows_here"] fW fdW) (T : Txt mg) :
    FnOk P w K mg base CX0 3 f fd ["_law_rows_here", "_law_many"] (spLpo K) := by
  have GT : FnOk P w K mg base CX0 2 fT fdT ["_law_first", "_law_second"] (spLth K) := ok_lth dT.fn dO dW T
  have GB : FnOk P w K mg base CX0 2 fB fdB ["_law_rows_here"] (spLbk K) := ok_lbk dB.fn dW T
  refine F.ok scPo (fun vs H Q E h => ?_) (fun cdv A outer s H vs Q E hr h => ?_)
  · obtain ⟨a, S, z, rfl, _⟩ := h
    rfl
  · obtain ⟨a, S, z, rfl, nt, xS, lS, zS, z0, z1, k⟩ := h
    have hr2 : Room 2 _ := hr.mono (by decide)
    refine ⟨_, (pss_cons (ps_set (i := 2) scPo.nd rfl (Or.inl rfl) (pe_lst (pa_cons (pe_tup (pa_cons pe_str (pa_cons pe_str pa_nil))) pa_nil)))
        (pss_cons (ps_for PassesOwn.never rfl (pi_range1 rfl T.range (pa_cons (pe_callB call_abs (by rfl) T.abs b_abs (pa_cons (pv 1) pa_nil)) pa_nil)) (pg_name (i := 3) scPo.nd rfl (Or.inl rfl)) (pss_one (ps_set (i := 2) scPo.nd rfl (Or.inl rfl) (pe_call GT hr2 rfl dT.at_ dT.fn.kp dT.bi .nil pass0 (pa_cons (pv 2) (pa_cons (pe_ifExp (pt_cmpR op_gt (pv 1) pe_int (nomark _)) (pv 0) (pe_call GB hr2 rfl dB.at_ dB.fn.kp dB.bi .nil pass0 (pa_cons (pv 0) pa_nil))) pa_nil))))))
        (pss_one (ps_ret (pv 2))))), ?_⟩
    refine ⟨by show 2 ≤ sizeLine; decide, fun t ht => ?_⟩
    refine ⟨by show 1 ≤ sizeLine; decide, fun p hp => ?_⟩
    have et : (Str.ofString "") = tx [] := tx_nil.symm
    rw [et] at hp ⊢
    have s1 : Same H (upd H t (.tup [tv [], tv []])) := Same.new ht
    have s2 : Same (upd H t (.tup [tv [], tv []])) (upd (upd H t (.tup [tv [], tv []])) p (.lst [.ref t])) := Same.new hp
    have nt0 : NT (upd (upd H t (.tup [tv [], tv []])) p (.lst [.ref t])) p [([], [])] := ⟨[t], upd_same, .cons (s2 _ _ upd_same) .nil⟩
    have s12 := s1.trans s2
    have hpH : H p = none := s1.free hp
    have ea : (if z < 0 then -z else z) = (z.natAbs : Int) := by split <;> omega
    have en : (if z < 0 then -z else z).toNat = z.natAbs := by split <;> omega
    refine ⟨_, rfl, _, rfl, ?_⟩
    refine ⟨_, rfl, by split <;> omega, by split <;> omega, for_range (lo := 0) (n := (if z < 0 then -z else z).toNat) (fun i σ H2 => ∃ (p : Addr) (G : Tb) (o3 : Option V), σ = [some (.ref a), some (.int z), some (.ref p), o3] ∧ H p = none ∧ Same H H2 ∧ NT H2 p G ∧ FewA (pw (if 0 < z then act S else act (tn S)) i) G ∧ G.length ≤ 1 + 5 * i ∧ Sz (5 * i) G) ?_ ?_ ?_⟩
    · exact ⟨p, [([], [])], none, rfl, hpH, s12, nt0, fewA_one, by decide, sz_one⟩
    · clear nt0 s12 hpH hp ht s1 s2
      rintro i σ H2 hi ⟨p, G, o3, rfl, hp, s2, n2, fG, lG, zG⟩
      rw [en] at hi
      have step : ∀ {H3 : Hp} {c : Addr} {B : Tb}, Same H2 H3 → LT K H3 c B → Xc B → act B = (if 0 < z then act S else act (tn S)) → B.length ≤ 5 → Sz 5 B → spLth K [.ref p, .ref c] H3 (fun v H4 => ∃ (p : Addr) (G : Tb) (o3 : Option V), [some (V.ref a), some (.int z), some v, some (.int (0 + (i : Int)))] = [some (.ref a), some (.int z), some (.ref p), o3] ∧ H p = none ∧ Same H H4 ∧ NT H4 p G ∧ FewA (pw (if 0 < z then act S else act (tn S)) (i + 1)) G ∧ G.length ≤ 1 + 5 * (i + 1) ∧ Sz (5 * (i + 1)) G) E0 := fun {H3 c B} s3 lB xB aB lenB zB => by
        refine ⟨p, c, G, B, 5 * i, 5, rfl, (n2.same s3).l, lB, fG.x, xB, by omega, zG, zB, by omega, fun p4 H4 G4 hp4 s4 n4 f4 l4 z4 => ?_⟩
        refine ⟨p4, G4, _, rfl, s2.free (s3.free hp4), s2.trans (s3.trans s4), n4, ?_, by omega, fun y hy => by have := z4 y hy; omega⟩
        rw [fG.e, aB] at f4
        have e : (fun q => (if 0 < z then act S else act (tn S)) (pw (if 0 < z then act S else act (tn S)) i q)) = pw (if 0 < z then act S else act (tn S)) (i + 1) := by
          rw [Nat.add_comm]
          exact funext fun q => (pw_add _ i 1 q).symm
        rw [e] at f4
        exact f4
      refine ⟨_, rfl, _, rfl, _, _, rfl, rfl, _, rfl, ?_⟩
      by_cases hz : 0 < z
      · rw [decide_eq_true hz]
        refine iteT ⟨_, rfl, ?_⟩
        exact step (Same.refl _) (nt.same s2).l xS (by rw [if_pos hz]) lS zS
      · rw [decide_eq_false hz]
        refine iteF ⟨_, rfl, a, S, 5, rfl, (nt.same s2).l, xS, by omega, zS, by decide, fun p3 H3 B hp3 s3 n3 f3 l3 z3 => ?_⟩
        exact step s3 n3.l f3.x (by rw [if_neg hz]; exact f3.e) (by omega) z3
    · rintro σ H2 ⟨p, G, o3, rfl, hp, s2, n2, fG, lG, zG⟩
      rw [en] at fG lG zG
      refine ⟨_, rfl, k p H2 G hp s2 n2 ?_ (by omega) (zG.mono (by omega))⟩
      unfold zp
      by_cases hz : 0 < z
      · rw [if_pos hz] at fG
        rw [if_pos (by omega), show z.toNat = z.natAbs by omega]
        exact fG
      · rw [if_neg hz] at fG
        by_cases h0 : z = 0
        · subst h0; exact fG
        · rw [if_neg (by omega), show (-z).toNat = z.natAbs by omega]
          exact fG
end
end Hs

/-! part K14law14 -/
set_option Elab.async false
set_option linter.all false
set_option maxRecDepth 100000
set_option maxHeartbeats 4000000
namespace Hs
open PySem L2 Hm
abbrev sLaw : Stmt := top 77
def spLaw (Pt : Addr) (K : PySem.W.Frag) : Sp := fun vs H Q _ => ∃ (a : Addr) (ns : List Int), vs = [.ref a] ∧ SqL K H a (ns.map V.int) ∧ TabOk H Pt lawQ ∧ ∀ H', Q (.bl true) H'
def bNum : XB := ⟨false, false, true, false, false, false, false, false, false, false, false, false, false, false, false, false⟩
theorem bNum_word : bNum.word = "BadNumber" := by decide +kernel
theorem nu_word : PyData.eqv (.tuple [.none, .str ("BadNumber" : Str)]) (.tuple [.none, .str ("BadNumber" : Str)]) = true := by decide +kernel
theorem nu_shape : SeqAt.shaped (.tuple [.none, .str ("BadNumber" : Str)]) = true := by decide +kernel
theorem power_ne : ¬ (("power" : Str) = "table") := by decide +kernel
theorem iteT' {c : Bool} {A B : Prop} (h : c = true) (x : A) : if c = true then A else B := by rw [if_pos h]; exact x
theorem iteF' {c : Bool} {A B : Prop} (h : c = false) (x : B) : if c = true then A else B := by rw [if_neg (by rw [h]; decide)]; exact x
section
variable {K : PySem.W.Frag} {C cB cA : Addr} {H : Hp} {Q : VK} {E : XK}
theorem sp_pl {o p : W} (ap : Ap o p) (l : o.length + p.length ≤ 60) (k : ∀ z H' F, H z = none → Same H H' → SwAt K C H' z F → FewA (pl o p) F → F.length ≤ o.length + p.length + 2 → Sz 60 F → Q (.ref z) H') : spPln K C cB cA [tv o, tv p] H Q E := by
  refine ⟨tx o, tx p, rfl, by rw [tx_len]; omega, by rw [tx_len]; omega, fun o' p' eo ep _ _ _ => ?_, fun o' p' eo ep _ _ na => ?_, fun e => ?_⟩
  · have eo := tx_inj eo
    have ep := tx_inj ep
    subst eo
    subst ep
    exact ⟨l, k⟩
  · have eo := tx_inj eo
    have ep := tx_inj ep
    subst eo
    subst ep
    exact absurd ap na
  · rw [isH_tx (by omega), isH_tx (by omega)] at e
    cases e
theorem sp_eq {x y : Addr} {F G : Tb} {R : V → Hp → Prop} (s1 : SwAt K C H x F) (s2 : SwAt K C H y G) (e : F = G) (k : R (.bl true) H) : spSeq K C [.ref x, .ref y] H R E := ⟨x, F, s1, .inl ⟨y, G, rfl, s2, by rw [decide_eq_true e]; exact k⟩⟩
end
/-- what stands in the heap from then on -/
structure S14 (K : PySem.W.Frag) (C b la Pt d x : Addr) (D G : Tb) (H : Hp) : Prop where
  rdy : Rdy H b la Pt
  nt : NT H d D
  sw : SwAt K C H x G
section
variable {K : PySem.W.Frag} {C b la Pt d x : Addr} {D G : Tb} {H H' : Hp}
theorem S14.same (h : S14 K C b la Pt d x D G H) (s : Same H H') : S14 K C b la Pt d x D G H' := ⟨h.rdy.same s, h.nt.same s, h.sw.same s⟩
theorem S14.but (h : S14 K C b la Pt d x D G H) (k : But b H H') (B : Box H' b la) : S14 K C b la Pt d x D G H' := ⟨h.rdy.but k B, h.nt.but k h.rdy.box, h.sw.but k h.rdy.box⟩
theorem S14.why (h : S14 K C b la Pt d x D G H) (T : TabOk H' Pt lawQ) (k : ∀ d o, d ≠ Pt → H d = some o → H' d = some o) : S14 K C b la Pt d x D G H' := by
  obtain ⟨ps, g⟩ := h.rdy.tbl
  have kt : KpT H H' := ⟨fun c u e => k c _ (ne_of e g (by intro z; cases z)) e, fun c o u e => k c _ (ne_of e g (by intro z; cases z)) e⟩
  refine ⟨h.rdy.why T k, ?_, ?_⟩
  · obtain ⟨qs, e, p⟩ := h.nt
    exact ⟨qs, k _ _ (ne_of e g (by intro z; cases z)) e, PTn.keep kt p⟩
  · obtain ⟨dx, t, e, p⟩ := h.sw
    exact ⟨dx, t, k _ _ (ne_of e g (by intro z; cases z)) e, p.kp kt⟩
end
section
variable {P : Program} {w : World} {K : PySem.W.Frag} {mg : Str → Option Value} {base : Heap}
abbrev NL : List Str := ["_law_script", "_law_box", "_law_turn", "_law_rows_here", "_law_due", "_law_found", "_law_word", "_law_cut_here", "_law_at", "_law_change", "_law_times", "_law_far_here", "_law_many", "_law_swap"]
theorem scL : FnScope NL ["_law_script"] (defScope sLaw) := ⟨rfl, rfl, rfl, by decide +kernel, rfl, by decide +kernel, by decide +kernel⟩












theorem ok_law {f c Pt C t0 cB cA cN fO fD fI fK fKi fWh fFa fC fM fRw fW fOn fTh fBk fPo fSt fPn fIn fR fL fE fP : Addr} {fd fdO fdD fdI fdK fdKi fdWh fdFa fdC fdM fdRw fdW fdOn fdTh fdBk fdPo fdSt fdPn fdIn fdR fdL fdE fdP : FuncData} {xa : XA} (F : Fun K "law" "law" sLaw f fd) (hc : fd.code = .ref c) (hC : PySem.W.CodeHd base c Pt) (hBm : Bm mg base) (T : Txt mg)
    (SC : SwC K mg C) (M : Mk K C fIn) (bIn : Binds K fdIn ["self", "rows"] []) (bI0 : Binds K fdIn ["self", "rows"] [.ref t0]) (hT0 : ∀ H, BT K false H t0 [([], [])])
    (kl : PySem.W.kitOne K (.type "list") (.ref C) = some false) (ki : PySem.W.kitOne K (.type "int") (.ref C) = some false)
    (dO : Def K mg "_law_open" sOpen ["_law_script"] fO fdO) (dD : Def K mg "_law_draw" sDraw ["_law_box", "_law_many"] fD fdD) (dI : Def K mg "_law_int" sInt ["_law_found"] fI fdI) (dK : Def K mg "_law_like" sLike ["_law_found", "_law_due"] fK fdK) (dKi : Def K mg "_law_kind" sKind ["_law_e"] fKi fdKi) (dWh : Def K mg "_law_why" sWhy ["_law_ask"] fWh fdWh) (dFa : Def K mg "_law_far" sFar ["_law_box"] fFa fdFa)
    (dC : Def K mg "_law_cut" sCut ["_law_box", "_law_many"] fC fdC) (dM : Def K mg "_law_mixed" sMix ["_law_box", "_law_row"] fM fdM) (dRw : Def K mg "_law_rows" sLrows ["_law_box", "_law_most"] fRw fdRw) (dW : Def K mg "_law_few" sLfew ["_law_rows_here"] fW fdW)
    (dOn : Def K mg "_law_onward" sOnw ["_law_rows_here", "_law_head"] fOn fdOn) (dTh : Def K mg "_law_then" sLth ["_law_first", "_law_second"] fTh fdTh) (dBk : Def K mg "_law_back" sLbk ["_law_rows_here"] fBk fdBk) (dPo : Def K mg "_law_power" sLpo ["_law_rows_here", "_law_many"] fPo fdPo) (dSt : Def K mg "_law_stands" sStd ["_law_found", "_law_rows_here"] fSt fdSt)
    (dPn : Def K mg "plain" sPln ["one", "other"] fPn fdPn) (GPn : FnOk P w K mg base (CXE P w) 9 fPn fdPn ["one", "other"] (spPln K C cB cA))
    (GI : FnOk P w K mg base CX0 6 fIn fdIn ["self", "rows"] (spSin K C)) (mR : SDef K C "rows" "Swap.rows" sSrows ["self"] fR fdR) (mL : SDef K C "__len__" "Swap.__len__" sSlen ["self"] fL fdL) (mE : SDef K C "__eq__" "Swap.__eq__" sSeq ["self", "other"] fE fdE)
    (mP : SDef K C "power" "Swap.power" sPow ["self", "many"] fP fdP) (GPw : FnOk P w K mg base CX0 9 fP fdP ["self", "many"] (spPow K C)) (GPi : FnOk P w K mg base CX0 9 fP fdP ["self", "many"] (spPowI K C)) (GPx : FnOk P w K mg base (CXE P w) 9 fP fdP ["self", "many"] (spPowX K C cN))
    (MP : ∃ t, mg "POWERS" = some (.int 60 t)) (M16 : XM mg xa) (B' : XK1 K xa cN bNum) :
    FnOk P w K mg base CX0 14 f fd ["_law_script"] (spLaw Pt K) := by
  have GO : FnOk P w K mg base CX0 1 fO fdO ["_law_script"] (spOpen K) := ok_open dO.fn T
  have GD : FnOk P w K mg base CX0 1 fD fdD ["_law_box", "_law_many"] spDraw := ok_draw dD.fn T
  have GC : FnOk P w K mg base CX0 2 fC fdC ["_law_box", "_law_many"] spCut := ok_cut dC.fn dD.fn dD.bi dD.at_ T
  have GRw : FnOk P w K mg base CX0 3 fRw fdRw ["_law_box", "_law_most"] spLrows := ok_lrows dRw.fn dD dC dM T
  have GFa : FnOk P w K mg base CX0 2 fFa fdFa ["_law_box"] spFar := ok_far dFa.fn dD T
  have GPo : FnOk P w K mg base CX0 3 fPo fdPo ["_law_rows_here", "_law_many"] (spLpo K) := ok_lpo dPo.fn dTh dOn dBk dW T
  have GSt : FnOk P w K mg base CX0 6 fSt fdSt ["_law_found", "_law_rows_here"] (spStd K C) := ok_std dSt.fn dW dI dK mR mL SC T
  have GR : FnOk P w K mg base CX0 1 fR fdR ["self"] (spSrows K C) := ok_srows mR.fn T SC
  have GE : FnOk P w K mg base CX0 1 fE fdE ["self", "other"] (spSeq K C) := ok_seq mE.fn T SC kl ki
  have GW : WhyOk P w K mg base 10 11 fWh (KW K xa) := why_ok dWh.fn dWh.bi dKi.fn dKi.bi dKi.at_ T M16
  obtain ⟨tk, MP⟩ := MP
  refine F.okL scL hc (fun vs H Q E h => ?_) (fun A outer s H vs Q E hr h => ?_)
  · obtain ⟨a, ns, rfl, _⟩ := h
    rfl
  · obtain ⟨a, ns, rfl, hS, tb, k⟩ := h
    have hr1 := hr.mono (j := 1) (by decide)
    have hr2 := hr.mono (j := 2) (by decide)
    have hr3 := hr.mono (j := 3) (by decide)
    have hr6 := hr.mono (j := 6) (by decide)
    have hr7 := hr.mono (j := 7) (by decide)
    have hr9 := hr.mono (j := 9) (by decide)
    have hr11 := hr.mono (j := 11) (by decide)
    refine ⟨_, (pss_cons (ps_set (i := 1) scL.nd rfl (Or.inl rfl) (pe_call GO hr1 rfl dO.at_ dO.fn.kp dO.bi .nil pass0 (pa_cons (pv 0) pa_nil)))
        (pss_cons (ps_for PassesOwn.never rfl (pi_range1 rfl T.range (pa_cons pe_int pa_nil)) (pg_name (i := 2) scL.nd rfl (Or.inl rfl)) (pss_cons (ps_set (i := 3) scL.nd rfl (Or.inl rfl) (pe_call GRw hr3 rfl dRw.at_ dRw.fn.kp dRw.bi .nil pass0 (pa_cons (pv 1) (pa_cons pe_int pa_nil))))
        (pss_cons (ps_set (i := 12) scL.nd rfl (Or.inr rfl) (pe_op op_sub (pe_call GD hr1 rfl dD.at_ dD.fn.kp dD.bi .nil pass0 (pa_cons (pv 1) (pa_cons pe_int pa_nil))) pe_int))
        (pss_cons (ps_set (i := 13) scL.nd rfl (Or.inr rfl) (pe_make M GI hr7 rfl SC.mgC bIn .nil pass0 (pa_cons (pv 3) pa_nil)))
        (pss_cons (ps_set (i := 4) scL.nd rfl (Or.inl rfl) (pe_call GPo hr3 rfl dPo.at_ dPo.fn.kp dPo.bi .nil pass0 (pa_cons (pv 3) (pa_cons (pv 12) pa_nil))))
        (pss_cons (ps_asg (pe_whyB (defScope sLaw) NL ["_law_swap", "_law_many"] [13, 12] rfl rfl GW hr11 rfl dWh.at_ dWh.fn.kp rfl hC hBm (fun _ => rfl) (by decide +kernel) (fun cl g cd A outer s H E hr => pe_meth (pv 0) SC.cl mP.me GPw hr mP.bi .nil pass0 (pa_cons (pv 1) pa_nil))) (pg_tup rfl (pgs_cons (pg_name (i := 5) scL.nd rfl (Or.inl rfl)) (pgs_cons (pg_name (i := 6) scL.nd rfl (Or.inl rfl)) pgs_nil))))
        (pss_cons (ps_if (PW.pt (pw_or (pt_cmpR op_ne (pv 6) (pe_ifExp (pt_cmpR op_gt (pe_callB call_len_seq (by rfl) T.len PySem.boot_len (pa_cons (pv 4) pa_nil)) pe_int (nomark _)) pe_str pe_str) (nomark _)) (pw_or1 (PW.pt (pw_and (pt_cmpR op_eq (pv 6) pe_str (nomark _)) (pw_and1 (pt_not (pt_val (pe_call GSt hr6 rfl dSt.at_ dSt.fn.kp dSt.bi .nil pass0 (pa_cons (pv 5) (pa_cons (pv 4) pa_nil))))))))))) (pss_one (ps_ret pe_bl)) pss_nil)
        (pss_cons (ps_set (i := 7) scL.nd rfl (Or.inl rfl) (pe_call GC hr2 rfl dC.at_ dC.fn.kp dC.bi .nil pass0 (pa_cons (pv 1) (pa_cons (pe_op op_add pe_int (pe_call GD hr1 rfl dD.at_ dD.fn.kp dD.bi .nil pass0 (pa_cons (pv 1) (pa_cons pe_int pa_nil)))) pa_nil))))
        (pss_cons (ps_set (i := 8) scL.nd rfl (Or.inl rfl) (pe_call GD hr1 rfl dD.at_ dD.fn.kp dD.bi .nil pass0 (pa_cons (pv 1) (pa_cons (pe_op op_sub (pe_callB call_len_seq (by rfl) T.len PySem.boot_len (pa_cons (pv 7) pa_nil)) pe_int) pa_nil))))
        (pss_cons (ps_set (i := 9) scL.nd rfl (Or.inl rfl) (pe_call GPn hr9 rfl dPn.at_ dPn.fn.kp dPn.bi .nil passX (pa_cons (pe_ix (r := rIxL K) ix_list (pv 7) (pv 8) (fun _ _ => rfl)) (pa_cons (pe_ix (r := rIxL K) ix_list (pv 7) (pe_op op_add (pv 8) pe_int) (fun _ _ => rfl)) pa_nil))))
        (pss_cons (ps_set (i := 10) scL.nd rfl (Or.inl rfl) (pe_ix (r := rIxL K) ix_list (pe_lst (pa_cons pe_int (pa_cons (pe_un un_neg pe_int) (pa_cons pe_int (pa_cons (pe_un un_neg pe_int) (pa_cons (pe_op op_sub (pe_call GD hr1 rfl dD.at_ dD.fn.kp dD.bi .nil pass0 (pa_cons (pv 1) (pa_cons pe_int pa_nil))) pe_int) pa_nil)))))) (pe_call GD hr1 rfl dD.at_ dD.fn.kp dD.bi .nil pass0 (pa_cons (pv 1) (pa_cons pe_int pa_nil))) (fun _ _ => rfl)))
        (pss_cons (ps_set (i := 4) scL.nd rfl (Or.inl rfl) (pe_ifExp (pt_cmpR op_eq (pe_op op_mod (pv 10) pe_int) pe_int (nomark _)) (pe_meth0 (pv 9) SC.cl mR.me GR hr1 mR.bi .nil pass0) (pe_lst (pa_cons (pe_tup (pa_cons pe_str (pa_cons pe_str pa_nil))) pa_nil))))
        (pss_cons (ps_if (pt_not (pt_val (pe_call GSt hr6 rfl dSt.at_ dSt.fn.kp dSt.bi .nil pass0 (pa_cons (pe_meth (pv 9) SC.cl mP.me GPi hr9 mP.bi .nil pass0 (pa_cons (pv 10) pa_nil)) (pa_cons (pv 4) pa_nil))))) (pss_one (ps_ret pe_bl)) pss_nil)
        (pss_cons (ps_set (i := 11) scL.nd rfl (Or.inr rfl) (pe_ix (r := rIxL K) ix_list (pe_lst (pa_cons pe_int (pa_cons (pe_un un_neg pe_int) (pa_cons (pe_call GFa hr2 rfl dFa.at_ dFa.fn.kp dFa.bi .nil pass0 (pa_cons (pv 1) pa_nil)) pa_nil)))) (pe_call GD hr1 rfl dD.at_ dD.fn.kp dD.bi .nil pass0 (pa_cons (pv 1) (pa_cons pe_int pa_nil))) (fun _ _ => rfl)))
        (pss_one (ps_if (PW.pt (pw_and (pt_cmpR op_ne (pv 11) (pe_un un_neg pe_int) (nomark _)) (pw_and1 (pt_cmpR (op_neD hr.units) (pe_whyB (defScope sLaw) NL ["_law_swap", "_law_far_here"] [13, 11] rfl rfl GW hr11 rfl dWh.at_ dWh.fn.kp rfl hC hBm (fun _ => rfl) (by decide +kernel) (fun cl g cd A outer s H E hr => pe_meth (pv 0) SC.cl mP.me GPx hr mP.bi .nil (XI.pass own_lam rfl rfl) (pa_cons (pv 1) pa_nil))) (pe_tup (pa_cons pe_non (pa_cons pe_str pa_nil))) (nomark _))))) (pss_one (ps_ret pe_bl)) pss_nil))))))))))))))))
        (pss_one (ps_ret (pe_and (pe_cmpR op_eq (pe_glob (v := .int 60) (by rfl) MP ⟨_, rfl⟩) pe_int (nomark _)) (pe_one (pe_cmpR (op_eqI mE.me GE hr1 mE.bi SC.cl) (pe_meth (pe_make0 M GI hr7 rfl SC.mgC bI0 (.cons rfl .nil : Vals [.ref t0] [.ref t0]) pass0) SC.cl mP.me GPw hr9 mP.bi .nil pass0 (pa_cons pe_int pa_nil)) (pe_make0 M GI hr7 rfl SC.mgC bI0 (.cons rfl .nil : Vals [.ref t0] [.ref t0]) pass0) (nomark _)))))))), ?_⟩
    have big : ∀ {m : Nat}, m ≤ 100000 → m ≤ sizeLine := fun h => Nat.le_trans h (by decide)
    refine ⟨_, rfl, a, ns, rfl, hS, fun b la H1 hb hla sm Bx => ?_⟩
    have R1 : Rdy H1 b la Pt := ⟨Bx, tb.keep fun d o e _ => sm d o e⟩
    refine ⟨4, rfl, by decide, by decide, for_range (lo := 0) (n := 4) (fun i σ H1 => ∃ (o2 o3 o4 o5 o6 o7 o8 o9 o10 o11 o12 o13 : Option V), σ = [some (.ref a), some (.ref b), o2, o3, o4, o5, o6, o7, o8, o9, o10, o11, o12, o13] ∧ Rdy H1 b la Pt) ⟨_, _, _, _, _, _, _, _, _, _, _, _, rfl, R1⟩ ?_ ?_⟩
    · clear R1 Bx sm hb hla tb hS
      rintro i σ H1 hi ⟨o2, o3, o4, o5, o6, o7, o8, o9, o10, o11, o12, o13, rfl, R0⟩
      refine ⟨_, rfl, b, la, 5, rfl, R0.box, by decide, by decide, fun r H2 S hr' kp2 B2 nS xS lS1 lS zS => ?_⟩
      have R2 := R0.but kp2 B2
      refine ⟨_, rfl, b, la, 13, rfl, R2.box, by decide, by decide, fun z H3 z0 z1 kp3 B3 => ?_⟩
      have R3 := R2.but kp3 B3
      have n3 := nS.but kp3 R2.box
      refine ⟨_, _, rfl, rfl, ?_⟩
      refine ⟨_, rfl, fun x dx hx hd nd => mk_sw n3.l.b xS (by omega) (zS.mono (by decide)) hx hd fun H4 G s4 sx fG lG zG => ⟨rfl, ?_⟩⟩
      have zG : Sz 5 G := few_sz fG xS.h.de zS
      have aG : FewA (act S) G := fG.a xS
      refine ⟨_, rfl, _, rfl, r, S, z - 6, rfl, n3.same s4, xS, lS, zS, by omega, by omega, fun d H5 D hd5 s5 nD fD lD zD => ?_⟩
      have X5 : S14 K C b la Pt d x D G H5 := ⟨(R3.same s4).same s5, nD, sx.same s5⟩
      clear R0 R2 R3 kp2 B2 nS kp3 B3 n3 s4 sx hx hd nd hr' hd5 s5 nD
      -- the power
      refine ⟨X5.rdy.tab, fun H6 T6 k6 => ?_⟩
      have X6 := X5.why T6 k6
      clear X5 T6 k6
      obtain ⟨dx6, t6, hx6, _⟩ := id X6.sw
      refine ⟨_, rfl, x, dx6, _, rfl, hx6, sfl_no t6 power_ne, _, rfl, x, G, act S, act (tn S), z - 6, rfl, X6.sw, aG, inv_tn xS, by omega, zG.mono (by decide), by omega, by omega, fun y H7 F7 hy s7 sw7 f7 l7 z7 => ?_⟩
      have X7 := X6.same s7
      intro tp htp
      have s8 : Same H7 (upd H7 tp (.tup [.ref y, .str ""])) := Same.new htp
      have X8 := X7.same s8
      have sw8 := sw7.same s8
      refine ⟨tp, _, rfl, SqT.of upd_same, rfl, _, _, rfl, _, _, rfl, rfl, ?_⟩
      generalize upd H7 tp (.tup [.ref y, .str ""]) = H8 at X8 sw8 ⊢
      clear X6 X7 s7 s8 htp sw7 hx6
      obtain ⟨ds, ed, pd⟩ := id X8.nt
      have ld := pd.len
      refine ⟨_, rfl, _, rfl, d, _, rfl, .inl (SqL.of ed), _, _, rfl, rfl, _, rfl, ?_⟩
      refine iteF' (decide_eq_false (by rw [List.length_map]; omega)) ?_
      refine ⟨rfl, _, rfl, iteF' (by rw [decide_eq_true rfl]; rfl) ?_⟩
      refine ⟨_, rfl, rfl, _, rfl, iteT' (decide_eq_true rfl) ?_⟩
      refine ⟨_, rfl, _, rfl, y, d, F7, D, rfl, sw8, X8.nt.l, fD.x, by omega, zD.mono (by decide), f7.few fD.x fD.e, by omega, fun H9 s9 => ⟨_, rfl, iteF ?_⟩⟩
      have X9 := X8.same s9
      clear X8 sw8 s9 ed pd ld f7 l7 z7
      -- a plain one
      refine ⟨_, rfl, _, rfl, b, la, 6, rfl, X9.rdy.box, by decide, by decide, fun n H10 n0 n1 kp10 B10 => ?_⟩
      obtain ⟨m, rfl⟩ := Int.eq_ofNat_of_zero_le n0
      have X10 := X9.but kp10 B10
      refine ⟨_, _, rfl, rfl, b, la, 2 + m, by rw [Int.natCast_add]; rfl, B10, by omega, by omega, fun p11 H11 l hp11 kp11 B11 e11 ll an de sz => ?_⟩
      have X11 := X10.but kp11 B11
      have np := (X10.rdy.box.new hp11).1
      refine ⟨_, rfl, _, rfl, p11, _, rfl, .inl (SqL.of e11), _, _, rfl, rfl, b, la, _, rfl, B11, by rw [len_tvs]; omega, by rw [len_tvs]; omega, fun t H12 t0' t1 kp12 B12 => ?_⟩
      rw [len_tvs] at t1
      obtain ⟨j, rfl⟩ := Int.eq_ofNat_of_zero_le t0'
      have X12 := X11.but kp12 B12
      have e12 := kp12 _ _ np e11
      have j1 : j < l.length := by omega
      have j2 : j + 1 < l.length := by omega
      have a1 : atI (tvs l) (j : Int) = some (tv l[j]) := atI_nat (at_tvs (List.getElem?_eq_getElem j1))
      have a2 : atI (tvs l) ((j : Int) + 1) = some (tv l[j + 1]) := by
        rw [show (j : Int) + 1 = ((j + 1 : Nat) : Int) by omega]
        exact atI_nat (at_tvs (List.getElem?_eq_getElem j2))
      have ap : Ap l[j] l[j + 1] := List.pairwise_iff_getElem.mp an j (j + 1) j1 j2 (Nat.lt_succ_self _)
      have b1 := sz _ (List.getElem_mem j1)
      have b2 := sz _ (List.getElem_mem j2)
      refine ⟨_, rfl, _, rfl, p11, _, _, _, rfl, rfl, SqL.of e12, a1, _, rfl, _, rfl, _, _, rfl, rfl, p11, _, _, _, rfl, rfl, SqL.of e12, a2, ?_⟩
      dsimp only [tCons, tC, tNil]
      generalize l[j] = o at ap b1 ⊢
      generalize l[j + 1] = p at ap b2 ⊢
      refine sp_pl ap (by omega) fun zc H13 Fc hzc s13 sw13 f13 l13 z13 => ?_
      have X13 := X12.same s13
      clear X9 X10 X11 X12 kp10 B10 kp11 B11 kp12 B12 e11 e12 a1 a2 hp11 s13 hzc de an sz
      have fA : FewA (act Fc) Fc := ⟨f13.x, f13.rd, f13.sd, rfl⟩
      have ivo : Ivo Fc := fun q => by rw [f13.e]; exact (pl_inv ap).1 q
      -- how often
      refine ⟨_, rfl, _, rfl, _, rfl, b, la, 121, rfl, X13.rdy.box, by decide, by decide, fun u H14 u0 u1 kp14 B14 => ?_⟩
      have X14 := X13.but kp14 B14
      have sw14 := sw13.but kp14 X13.rdy.box
      refine ⟨_, _, rfl, rfl, by show 5 ≤ sizeLine; decide, fun L hL => ?_⟩
      have nL := (B14.new hL).1
      have s15 : Same H14 (upd H14 L (.lst [.int 60, .int (-60), .int 59, .int (-59), .int (u - 60)])) := Same.new hL
      have hL15 : (upd H14 L (.lst [.int 60, .int (-60), .int 59, .int (-59), .int (u - 60)])) L = some (.lst [.int 60, .int (-60), .int 59, .int (-59), .int (u - 60)]) := upd_same
      have X15 := X14.same s15
      have sw15 := sw14.same s15
      refine ⟨_, rfl, b, la, 5, rfl, X15.rdy.box, by decide, by decide, fun t H16 t0' t1' kp16 B16 => ?_⟩
      have X16 := X15.but kp16 B16
      have sw16 := sw15.but kp16 X15.rdy.box
      have hL16 := kp16 _ _ nL hL15
      obtain ⟨zt, ea, zb1, zb2⟩ : ∃ zt : Int, atI [V.int 60, V.int (-60), V.int 59, V.int (-59), V.int (u - 60)] t = some (.int zt) ∧ -60 ≤ zt ∧ zt ≤ 60 := by
        obtain ⟨m, rfl⟩ := Int.eq_ofNat_of_zero_le t0'
        match m, t1' with
        | 0, _ => exact ⟨60, atI_nat (j := 0) rfl, by decide, by decide⟩
        | 1, _ => exact ⟨-60, atI_nat (j := 1) rfl, by decide, by decide⟩
        | 2, _ => exact ⟨59, atI_nat (j := 2) rfl, by decide, by decide⟩
        | 3, _ => exact ⟨-59, atI_nat (j := 3) rfl, by decide, by decide⟩
        | 4, _ => exact ⟨u - 60, atI_nat (j := 4) rfl, by omega, by omega⟩
        | m + 5, h => omega
      refine ⟨L, _, _, _, rfl, rfl, SqL.of hL16, ea, ?_⟩
      clear X13 X14 X15 sw13 sw14 sw15 kp14 B14 kp16 B16 hL15 hL16 ea s15 hL nL
      dsimp only [gName]
      refine seq_gen (fun σ H17 => ∃ (p17 : Addr) (U : Tb), σ = [some (.ref a), some (.ref b), some (.int (0 + i)), some (.ref r), some (.ref p17), some (.ref y), some (.str ""), some (.ref p11), some (.int (j : Int)), some (.ref zc), some (.int zt), o11, some (.int (z - 6)), some (.ref x)] ∧ S14 K C b la Pt d x D G H17 ∧ SwAt K C H17 zc Fc ∧ NT H17 p17 U ∧ Xc U ∧ U.length ≤ 60 ∧ Sz 60 U ∧ act U = pw (act Fc) zt.natAbs) (fun nx hn => ?_) ?_
      · refine ⟨_, rfl, _, _, rfl, rfl, (by decide : (0 : Int) < 2), rfl, _, rfl, ?_⟩
        rcases ivo_pw ivo zt.natAbs with ⟨par, ep⟩ | ⟨par, ep⟩
        · refine iteF' (decide_eq_false fun e => ?_) ?_
          · have e := V.int.inj e
            have e : zt % 2 = 1 := e
            omega
          refine ⟨by show 2 ≤ sizeLine; decide, fun t ht => ?_⟩
          refine ⟨by show 1 ≤ sizeLine; decide, fun q hq => ?_⟩
          have et : (Str.ofString "") = tx [] := tx_nil.symm
          rw [et] at hq ⊢
          have s8 : Same H16 (upd H16 t (.tup [tv [], tv []])) := Same.new ht
          have s9 : Same (upd H16 t (.tup [tv [], tv []])) (upd (upd H16 t (.tup [tv [], tv []])) q (.lst [.ref t])) := Same.new hq
          have s89 := s8.trans s9
          exact hn _ _ ⟨q, [([], [])], rfl, X16.same s89, sw16.same s89, ⟨[t], upd_same, .cons (s9 _ _ upd_same) .nil⟩, xc_one, by decide, sz_one, by rw [ep]; exact act_one⟩
        · refine iteT' (decide_eq_true ?_) ?_
          · have e : zt % 2 = 1 := by omega
            show V.int (zt % 2) = V.int 1
            rw [e]
          obtain ⟨dz, tz, hz, _⟩ := id sw16
          refine ⟨_, rfl, zc, dz, _, rfl, hz, sfl_no tz rows_ne, zc, Fc, rfl, sw16, fun q H17 hq s17 n17 => ?_⟩
          exact hn _ _ ⟨q, Fc, rfl, X16.same s17, sw16.same s17, n17, f13.x, by omega, z13, by rw [ep]⟩
      rintro σ H17 ⟨p17, U, rfl, X17, sw17, n17, xU, lU, zU, aU⟩
      obtain ⟨dz, tz, hz, _⟩ := id sw17
      refine ⟨_, rfl, zc, dz, _, rfl, hz, sfl_no tz power_ne, _, rfl, zc, Fc, zt, 60, rfl, sw17, fA, ivo, by omega, z13, by decide, zb1, zb2, fun y2 H18 F18 hy2 s18 sw18 f18 => ?_⟩
      have bd := ivo_bd ivo fA (few_len (S := Fc) ⟨fA.x, fA.rd, fA.sd, Eqv.refl _⟩) z13 f18
      refine ⟨_, rfl, y2, p17, F18, U, rfl, sw18, (n17.same s18).l, xU, by omega, zU.mono (by decide), f18.few xU aU, by omega, fun H19 s19 => ⟨_, rfl, iteF ?_⟩⟩
      have X19 := (X17.same s18).same s19
      clear X16 X17 sw16 sw17 n17 sw18 f18 s18 s19 hz
      -- beyond the bounds
      refine ⟨_, rfl, _, rfl, b, la, rfl, X19.rdy.box, fun zf H20 kz kp20 B20 => ?_⟩
      have X20 := X19.but kp20 B20
      refine ⟨by show 3 ≤ sizeLine; decide, fun L hL => ?_⟩
      have nL := (B20.new hL).1
      have s21 : Same H20 (upd H20 L (.lst [.int 61, .int (-61), .int zf])) := Same.new hL
      have hL21 : (upd H20 L (.lst [.int 61, .int (-61), .int zf])) L = some (.lst [.int 61, .int (-61), .int zf]) := upd_same
      have X21 := X20.same s21
      refine ⟨_, rfl, b, la, 3, rfl, X21.rdy.box, by decide, by decide, fun t H22 t0' t1' kp22 B22 => ?_⟩
      have X22 := X21.but kp22 B22
      have hL22 := kp22 _ _ nL hL21
      obtain ⟨zr, ea, zk⟩ : ∃ zr : Int, atI [V.int 61, V.int (-61), V.int zf] t = some (.int zr) ∧ (zr = -1 ∨ zr < -60 ∨ 60 < zr) := by
        obtain ⟨m, rfl⟩ := Int.eq_ofNat_of_zero_le t0'
        match m, t1' with
        | 0, _ => exact ⟨61, atI_nat (j := 0) rfl, by decide⟩
        | 1, _ => exact ⟨-61, atI_nat (j := 1) rfl, by decide⟩
        | 2, _ => exact ⟨zf, atI_nat (j := 2) rfl, by omega⟩
        | m + 3, h => omega
      refine ⟨L, _, _, _, rfl, rfl, SqL.of hL22, ea, ?_⟩
      clear X19 X20 X21 kp20 B20 kp22 B22 hL21 hL22 s21 hL nL ea
      refine ⟨_, rfl, _, rfl, rfl, _, rfl, ?_⟩
      by_cases c1 : zr = -1
      · exact iteF' (by rw [c1]; rfl) ⟨_, _, _, _, _, _, _, _, _, _, _, _, rfl, X22.rdy⟩
      refine iteT' (by show (!decide (V.int zr = V.int (-1))) = true; rw [decide_eq_false (fun e => c1 (V.int.inj e))]; rfl) ?_
      refine ⟨X22.rdy.tab, fun H23 T23 k23 => ?_⟩
      have X23 := X22.why T23 k23
      obtain ⟨dx, tx', hx, _⟩ := id X23.sw
      refine ⟨_, rfl, x, dx, _, rfl, hx, sfl_no tx' power_ne, _, rfl, x, G, zr, rfl, X23.sw, by omega, rfl, _, ⟨cN, bNum, rfl, B', rfl⟩, fun H24 tp s24 htp => ?_⟩
      have s25 := s24.trans (Same.new (o := .tup [.non, .str bNum.word]) htp)
      have etp : (upd H24 tp (.tup [.non, .str bNum.word])) tp = some (.tup [.non, .str "BadNumber"]) := by rw [upd_same, bNum_word]
      refine ⟨by show 2 ≤ sizeLine; decide, fun t ht => ?_⟩
      have s26 : Same (upd H24 tp (.tup [.non, .str bNum.word])) (upd (upd H24 tp (.tup [.non, .str bNum.word])) t (.tup [.non, .str "BadNumber"])) := Same.new ht
      refine ⟨.tuple [.none, .str "BadNumber"], .tuple [.none, .str "BadNumber"], .tup (SqT.of (s26 _ _ etp)) (.cons .non (.cons (.str _) .nil)), .tup (SqT.of upd_same) (.cons .non (.cons (.str _) .nil)), nu_shape, nu_shape, _, rfl, ?_⟩
      rw [nu_word]
      exact iteF ⟨_, _, _, _, _, _, _, _, _, _, _, _, rfl, (X23.same (s25.trans s26)).rdy⟩
    · rintro σ H1 ⟨o2, o3, o4, o5, o6, o7, o8, o9, o10, o11, o12, o13, rfl, R0⟩
      refine ⟨rfl, _, rfl, iteT' (decide_eq_true rfl) ?_⟩
      refine fun y dy hy hdy ny => mk_sw (hT0 _) xc_one (by decide) sz_one hy hdy fun H2 F2 s2 sw2 fw2 _ _ => ⟨rfl, ?_⟩
      have e2 := few_one fw2
      subst e2
      obtain ⟨dy2, t2, hy2, _⟩ := id sw2
      refine ⟨y, dy2, _, rfl, hy2, sfl_no t2 power_ne, y, _, fun q => q, fun q => q, 0, rfl, sw2, fewA_one, ⟨fun _ => rfl, fun _ => rfl⟩, by decide, sz_one, by decide, by decide, fun y3 H3 F3 hy3 s3 sw3 f3 _ _ => ?_⟩
      refine fun y4 dy4 hy4 hdy4 ny4 => mk_sw (hT0 _) xc_one (by decide) sz_one hy4 hdy4 fun H5 F5 s5 sw5 fw5 _ _ => ⟨rfl, ?_⟩
      have e5 := few_one fw5
      subst e5
      have e3 : F3 = [([], [])] := f3.uniq fewA_one
      obtain ⟨d3, t3, h3, _⟩ := id (sw3.same s5)
      obtain ⟨d5, t5, h5, _⟩ := id sw5
      refine ⟨y3, y4, d3, _, d5, _, rfl, rfl, h3, h5, ?_⟩
      exact sp_eq (sw3.same s5) sw5 e3 ⟨⟨_, rfl⟩, k _⟩
end
end Hs

/-! part Fq -/
set_option Elab.async false
set_option linter.all false
set_option maxRecDepth 100000
namespace L2
open PySem PySem.Spec PyProof.Rows
theorem exm_mk {K : PySem.W.Frag} {C D : Addr} {b : Bool} (h1 : PySem.W.subIn K (.ref D) (.type "BaseException") = some true) (h2 : PySem.W.isClsIn K D = true) (h3 : PySem.W.typeIn K (.ref D) = some (.type "type")) (h4 : PySem.W.subIn K (.ref C) (.ref D) = some b) : PySem.W.exmOne K (.ref C) (.ref D) = some b := by
  unfold PySem.W.exmOne
  rw [if_pos (by rw [h1]; rfl)]
  show (if ((PySem.W.clsIn K D).isSome && PySem.W.typeIn K (.ref D) == some (.type "type")) = true then PySem.W.subIn K (.ref C) (.ref D) else none) = some b
  rw [if_pos (by rw [show (PySem.W.clsIn K D).isSome = true from h2, h3]; simp)]
  exact h4
theorem exm3_mk {K : PySem.W.Frag} {C D1 D2 D3 : Addr} {b1 b2 b3 : Bool} (h1 : PySem.W.exmOne K (.ref C) (.ref D1) = some b1) (h2 : PySem.W.exmOne K (.ref C) (.ref D2) = some b2) (h3 : PySem.W.exmOne K (.ref C) (.ref D3) = some b3) (h : (b1 || (b2 || (b3 || false))) = true) :
    PySem.W.exmAny K (.ref C) [.ref D1, .ref D2, .ref D3] = some true := by
  unfold PySem.W.exmAny PySem.W.exmAny PySem.W.exmAny PySem.W.exmAny
  rw [h1, h2, h3]
  exact congrArg some h
theorem tab_mk {K : PySem.W.Frag} {x : Str} {f c Pt : Addr} {oc : Value} {od : Option Addr} {sl : Array (Option Value)} {fd : FuncData} {o1 : Value} {o2 : Option Addr} {o3 : Array (Option Value)} {vs : Array Value} (e1 : PySem.W.nsIn K mainGlobals x = some (some (.ref f))) (e2 : K.lookup f = some ⟨oc, od, .func fd, sl⟩) (e3 : fd.code = .ref c)
    (e4 : K.lookup c = some ⟨o1, o2, .fields vs, o3⟩) (e5 : vs[11]? = some (.ref Pt)) : PySem.W.tabIn K x = some (c, Pt) := by
  unfold PySem.W.tabIn
  rw [e1]
  dsimp only
  rw [e2]
  dsimp only
  rw [e3]
  dsimp only
  rw [e4]
  dsimp only
  rw [e5]
end L2

/-! part K14top -/
set_option Elab.async false
set_option linter.all false
set_option maxRecDepth 100000
set_option maxHeartbeats 0
namespace Hs
open PySem L2
def spLawK (K : PySem.W.Frag) : Sp := fun vs H Q _ => ∃ (a : Addr) (ns : List Int), vs = [.ref a] ∧ SqL K H a (ns.map V.int) ∧ (∀ c Pt, PySem.W.tabIn K "law" = some (c, Pt) → TabOk H Pt lawQ) ∧ ∀ H', Q (.bl true) H'
theorem all_mk {l : PySem.W.OpenLaw} {w : World} {K : PySem.W.Frag} {h : Heap} {mg : Str → Option Value} {fa tc Pt f0 f1 f2 f3 f4 f5 f6 f7 f8 f9 f10 f11 f12 f13 f14 f15 f16 f17 f18 f19 f20 f21 f22 f23 f24 f25 f26 f27 f28 f29 f30 f31 f32 f33 f34 f35 f36 q_SwapError q_Lacking q_Held q_BadHead q_BadRing q_BadNumber q_BadTable q_NotApart q_TooGreat q_BadName q_Full q_NoRule q_BadText q_Ring q_Breaks q_NoName q_NothingLeft q_Taken q_InUse C gC0 gC1 gC2 gC3 gC4 dAC0 dBC0 dCC0 : Addr} (X : K.In h) (G : h.Ns mainGlobals mg) (hfa : mg "law" = some (.ref fa))
    {od0 an0 od1 an1 od2 an2 od3 an3 od4 an4 od5 an5 od6 an6 od7 an7 od8 an8 od9 an9 od10 an10 od11 an11 od12 an12 od13 an13 od14 an14 od15 an15 od16 an16 od17 an17 od18 an18 od19 an19 od20 an20 od21 an21 od22 an22 od23 an23 od24 an24 od25 an25 od26 an26 od27 an27 od28 an28 od29 an29 od30 an30 od31 an31 od32 an32 od33 an33 od34 an34 od35 an35 od36 an36 tod : Option Addr}
    {sl0 sl1 sl2 sl3 sl4 sl5 sl6 sl7 sl8 sl9 sl10 sl11 sl12 sl13 sl14 sl15 sl16 sl17 sl18 sl19 sl20 sl21 sl22 sl23 sl24 sl25 sl26 sl27 sl28 sl29 sl30 sl31 sl32 sl33 sl34 sl35 sl36 tsl : Array (Option Value)} {tvz : Array Value}
    {oc0 kV0 dc0 pm0 ct0 oc1 kV1 dc1 pm1 ct1 oc2 kV2 dc2 pm2 ct2 oc3 kV3 dc3 pm3 ct3 oc4 kV4 dc4 pm4 ct4 oc5 kV5 dc5 pm5 ct5 oc6 kV6 dc6 pm6 ct6 oc7 kV7 dc7 pm7 ct7 oc8 kV8 dc8 pm8 ct8 oc9 kV9 dc9 pm9 ct9 oc10 kV10 dc10 pm10 ct10 oc11 kV11 dc11 pm11 ct11 oc12 kV12 dc12 pm12 ct12 oc13 kV13 dc13 pm13 ct13 oc14 kV14 dc14 pm14 ct14 oc15 kV15 dc15 pm15 ct15 oc16 kV16 dc16 pm16 ct16 oc17 kV17 dc17 pm17 ct17 oc18 kV18 dc18 pm18 ct18 oc19 kV19 dc19 pm19 ct19 oc20 kV20 dc20 pm20 ct20 oc21 kV21 dc21 pm21 ct21 oc22 kV22 dc22 pm22 ct22 oc23 kV23 dc23 pm23 ct23 oc24 kV24 dc24 pm24 ct24 oc25 kV25 dc25 pm25 ct25 oc26 kV26 dc26 pm26 ct26 oc27 kV27 dc27 pm27 ct27 oc28 kV28 dc28 pm28 ct28 oc29 kV29 dc29 pm29 ct29 oc30 kV30 dc30 pm30 ct30 oc31 kV31 dc31 pm31 ct31 oc32 kV32 dc32 pm32 ct32 oc33 kV33 dc33 pm33 ct33 oc34 kV34 dc34 pm34 ct34 oc35 kV35 dc35 pm35 ct35 oc36 kV36 dc36 pm36 ct36 cd0 cd1 cd2 cd3 cd4 cd5 cd6 cd7 cd8 cd9 cd10 cd11 cd12 cd13 cd14 cd15 cd16 cd17 cd18 cd19 cd20 cd21 cd22 cd23 cd24 cd25 cd26 cd27 cd28 cd29 cd30 cd31 cd32 cd33 cd34 cd35 toc : Value}
    {tk_LONGEST tk_MOST_ROWS tk_POWERS : Tok}
    (a_C : PySem.W.nsIn K mainGlobals "Swap" = some (some (.ref C)))
    (pg_C : PySem.W.plainGet K C Str.empty = true) (hd_C : PySem.W.hasDictIn K C = true) (po_C : PySem.W.plainOver K C = true) (sa_C : PySem.W.findIn K (.ref C) "__setattr__" = some (some (.builtin "object.__setattr__"))) (mk_C : PySem.W.makesIn K C = true) (kc_C : PySem.W.keepIn K (.ref C) = true)
    (t1_C : PySem.W.findIn K (.ref C) "__class__" = some (some (.builtin "object.__class__"))) (t4_C : PySem.W.mroIn K C (.type "object") = some true)
    (na_C_table : PySem.W.findIn K (.ref C) "table" = some none)
    (kl : PySem.W.kitOne K (.type "list") (.ref C) = some false)
    (ki : PySem.W.kitOne K (.type "int") (.ref C) = some false)
    {pdC0 bnC0 : Option Addr} {tlC0 : Array (Option Value)} {qcC0 lVC0 ecC0 qmC0 ddC0 dtC0 : Value}
    {xaC0 xbC0 xcC0 : Option Addr} {yaC0 : Value} {naC0 nbC0 ncC0 : Nat} {zaC0 zbC0 zcC0 : Array (Option Value)} {taC0 tbC0 : Tok}
    (maC0 : PySem.W.findIn K (.ref C) "__init__" = some (some (.ref gC0))) (miC0 : PySem.W.isFn K (.ref gC0) = true) (mlC0 : K.lookup gC0 = some ⟨qcC0, pdC0, .func (PySem.W.fnOf "__init__" "Swap.__init__" (defArgs sSin) (defBody sSin) (defScope sSin) (.ref dAC0) lVC0 ecC0 qmC0 bnC0 ddC0 dtC0), tlC0⟩) (mcC0 : PySem.W.codeIn K ddC0 "Swap.__init__" = true) (mpC0 : PySem.W.keepIn K (.ref gC0) = true)
    (daC0 : K.lookup dAC0 = some ⟨yaC0, xaC0, .seq #[.ref dBC0] naC0, zaC0⟩) (dbC0 : K.lookup dBC0 = some ⟨.type "tuple", xbC0, .seq #[.ref dCC0] nbC0, zbC0⟩) (dcC0 : K.lookup dCC0 = some ⟨.type "tuple", xcC0, .seq #[.str "" taC0, .str "" tbC0] ncC0, zcC0⟩)
    {pdC1 bnC1 : Option Addr} {tlC1 : Array (Option Value)} {qcC1 lVC1 ecC1 qmC1 ddC1 dtC1 : Value}
    (maC1 : PySem.W.findIn K (.ref C) "rows" = some (some (.ref gC1))) (miC1 : PySem.W.isFn K (.ref gC1) = true) (mlC1 : K.lookup gC1 = some ⟨qcC1, pdC1, .func (PySem.W.fnOf "rows" "Swap.rows" (defArgs sSrows) (defBody sSrows) (defScope sSrows) .none lVC1 ecC1 qmC1 bnC1 ddC1 dtC1), tlC1⟩) (mcC1 : PySem.W.codeIn K ddC1 "Swap.rows" = true) (mpC1 : PySem.W.keepIn K (.ref gC1) = true)
    {pdC2 bnC2 : Option Addr} {tlC2 : Array (Option Value)} {qcC2 lVC2 ecC2 qmC2 ddC2 dtC2 : Value}
    (maC2 : PySem.W.findIn K (.ref C) "__len__" = some (some (.ref gC2))) (miC2 : PySem.W.isFn K (.ref gC2) = true) (mlC2 : K.lookup gC2 = some ⟨qcC2, pdC2, .func (PySem.W.fnOf "__len__" "Swap.__len__" (defArgs sSlen) (defBody sSlen) (defScope sSlen) .none lVC2 ecC2 qmC2 bnC2 ddC2 dtC2), tlC2⟩) (mcC2 : PySem.W.codeIn K ddC2 "Swap.__len__" = true) (mpC2 : PySem.W.keepIn K (.ref gC2) = true)
    {pdC3 bnC3 : Option Addr} {tlC3 : Array (Option Value)} {qcC3 lVC3 ecC3 qmC3 ddC3 dtC3 : Value}
    (maC3 : PySem.W.findIn K (.ref C) "__eq__" = some (some (.ref gC3))) (miC3 : PySem.W.isFn K (.ref gC3) = true) (mlC3 : K.lookup gC3 = some ⟨qcC3, pdC3, .func (PySem.W.fnOf "__eq__" "Swap.__eq__" (defArgs sSeq) (defBody sSeq) (defScope sSeq) .none lVC3 ecC3 qmC3 bnC3 ddC3 dtC3), tlC3⟩) (mcC3 : PySem.W.codeIn K ddC3 "Swap.__eq__" = true) (mpC3 : PySem.W.keepIn K (.ref gC3) = true)
    {pdC4 bnC4 : Option Addr} {tlC4 : Array (Option Value)} {qcC4 lVC4 ecC4 qmC4 ddC4 dtC4 : Value}
    (maC4 : PySem.W.findIn K (.ref C) "power" = some (some (.ref gC4))) (miC4 : PySem.W.isFn K (.ref gC4) = true) (mlC4 : K.lookup gC4 = some ⟨qcC4, pdC4, .func (PySem.W.fnOf "power" "Swap.power" (defArgs sPow) (defBody sPow) (defScope sPow) .none lVC4 ecC4 qmC4 bnC4 ddC4 dtC4), tlC4⟩) (mcC4 : PySem.W.codeIn K ddC4 "Swap.power" = true) (mpC4 : PySem.W.keepIn K (.ref gC4) = true)
    (t2 : PySem.W.specialIn K (.builtin "object.__class__") "__get__" = some (some (.builtin "getset_descriptor.__get__"))) (t3 : PySem.W.takesIn K (.builtin "object.__class__") = some true)
    (a0 : PySem.W.nsIn K mainGlobals "_law_open" = some (some (.ref f0))) (l0 : K.lookup f0 = some ⟨oc0, od0, .func (PySem.W.fnOf "_law_open" "_law_open" (defArgs sOpen) (defBody sOpen) (defScope sOpen) .none kV0 dc0 pm0 an0 cd0 ct0), sl0⟩) (c0 : PySem.W.codeIn K cd0 "_law_open" = true) (k0 : PySem.W.keepIn K (.ref f0) = true)
    (a1 : PySem.W.nsIn K mainGlobals "_law_draw" = some (some (.ref f1))) (l1 : K.lookup f1 = some ⟨oc1, od1, .func (PySem.W.fnOf "_law_draw" "_law_draw" (defArgs sDraw) (defBody sDraw) (defScope sDraw) .none kV1 dc1 pm1 an1 cd1 ct1), sl1⟩) (c1 : PySem.W.codeIn K cd1 "_law_draw" = true) (k1 : PySem.W.keepIn K (.ref f1) = true)
    (a2 : PySem.W.nsIn K mainGlobals "_law_int" = some (some (.ref f2))) (l2 : K.lookup f2 = some ⟨oc2, od2, .func (PySem.W.fnOf "_law_int" "_law_int" (defArgs sInt) (defBody sInt) (defScope sInt) .none kV2 dc2 pm2 an2 cd2 ct2), sl2⟩) (c2 : PySem.W.codeIn K cd2 "_law_int" = true) (k2 : PySem.W.keepIn K (.ref f2) = true)
    (a3 : PySem.W.nsIn K mainGlobals "_law_like" = some (some (.ref f3))) (l3 : K.lookup f3 = some ⟨oc3, od3, .func (PySem.W.fnOf "_law_like" "_law_like" (defArgs sLike) (defBody sLike) (defScope sLike) .none kV3 dc3 pm3 an3 cd3 ct3), sl3⟩) (c3 : PySem.W.codeIn K cd3 "_law_like" = true) (k3 : PySem.W.keepIn K (.ref f3) = true)
    (a4 : PySem.W.nsIn K mainGlobals "_law_kind" = some (some (.ref f4))) (l4 : K.lookup f4 = some ⟨oc4, od4, .func (PySem.W.fnOf "_law_kind" "_law_kind" (defArgs sKind) (defBody sKind) (defScope sKind) .none kV4 dc4 pm4 an4 cd4 ct4), sl4⟩) (c4 : PySem.W.codeIn K cd4 "_law_kind" = true) (k4 : PySem.W.keepIn K (.ref f4) = true)
    (a5 : PySem.W.nsIn K mainGlobals "_law_why" = some (some (.ref f5))) (l5 : K.lookup f5 = some ⟨oc5, od5, .func (PySem.W.fnOf "_law_why" "_law_why" (defArgs sWhy) (defBody sWhy) (defScope sWhy) .none kV5 dc5 pm5 an5 cd5 ct5), sl5⟩) (c5 : PySem.W.codeIn K cd5 "_law_why" = true) (k5 : PySem.W.keepIn K (.ref f5) = true)
    (a6 : PySem.W.nsIn K mainGlobals "_law_far" = some (some (.ref f6))) (l6 : K.lookup f6 = some ⟨oc6, od6, .func (PySem.W.fnOf "_law_far" "_law_far" (defArgs sFar) (defBody sFar) (defScope sFar) .none kV6 dc6 pm6 an6 cd6 ct6), sl6⟩) (c6 : PySem.W.codeIn K cd6 "_law_far" = true) (k6 : PySem.W.keepIn K (.ref f6) = true)
    (a7 : PySem.W.nsIn K mainGlobals "_law_cut" = some (some (.ref f7))) (l7 : K.lookup f7 = some ⟨oc7, od7, .func (PySem.W.fnOf "_law_cut" "_law_cut" (defArgs sCut) (defBody sCut) (defScope sCut) .none kV7 dc7 pm7 an7 cd7 ct7), sl7⟩) (c7 : PySem.W.codeIn K cd7 "_law_cut" = true) (k7 : PySem.W.keepIn K (.ref f7) = true)
    (a8 : PySem.W.nsIn K mainGlobals "_law_mixed" = some (some (.ref f8))) (l8 : K.lookup f8 = some ⟨oc8, od8, .func (PySem.W.fnOf "_law_mixed" "_law_mixed" (defArgs sMix) (defBody sMix) (defScope sMix) .none kV8 dc8 pm8 an8 cd8 ct8), sl8⟩) (c8 : PySem.W.codeIn K cd8 "_law_mixed" = true) (k8 : PySem.W.keepIn K (.ref f8) = true)
    (a9 : PySem.W.nsIn K mainGlobals "_law_rows" = some (some (.ref f9))) (l9 : K.lookup f9 = some ⟨oc9, od9, .func (PySem.W.fnOf "_law_rows" "_law_rows" (defArgs sLrows) (defBody sLrows) (defScope sLrows) .none kV9 dc9 pm9 an9 cd9 ct9), sl9⟩) (c9 : PySem.W.codeIn K cd9 "_law_rows" = true) (k9 : PySem.W.keepIn K (.ref f9) = true)
    (a10 : PySem.W.nsIn K mainGlobals "_law_few" = some (some (.ref f10))) (l10 : K.lookup f10 = some ⟨oc10, od10, .func (PySem.W.fnOf "_law_few" "_law_few" (defArgs sLfew) (defBody sLfew) (defScope sLfew) .none kV10 dc10 pm10 an10 cd10 ct10), sl10⟩) (c10 : PySem.W.codeIn K cd10 "_law_few" = true) (k10 : PySem.W.keepIn K (.ref f10) = true)
    (a11 : PySem.W.nsIn K mainGlobals "_law_onward" = some (some (.ref f11))) (l11 : K.lookup f11 = some ⟨oc11, od11, .func (PySem.W.fnOf "_law_onward" "_law_onward" (defArgs sOnw) (defBody sOnw) (defScope sOnw) .none kV11 dc11 pm11 an11 cd11 ct11), sl11⟩) (c11 : PySem.W.codeIn K cd11 "_law_onward" = true) (k11 : PySem.W.keepIn K (.ref f11) = true)
    (a12 : PySem.W.nsIn K mainGlobals "_law_then" = some (some (.ref f12))) (l12 : K.lookup f12 = some ⟨oc12, od12, .func (PySem.W.fnOf "_law_then" "_law_then" (defArgs sLth) (defBody sLth) (defScope sLth) .none kV12 dc12 pm12 an12 cd12 ct12), sl12⟩) (c12 : PySem.W.codeIn K cd12 "_law_then" = true) (k12 : PySem.W.keepIn K (.ref f12) = true)
    (a13 : PySem.W.nsIn K mainGlobals "_law_back" = some (some (.ref f13))) (l13 : K.lookup f13 = some ⟨oc13, od13, .func (PySem.W.fnOf "_law_back" "_law_back" (defArgs sLbk) (defBody sLbk) (defScope sLbk) .none kV13 dc13 pm13 an13 cd13 ct13), sl13⟩) (c13 : PySem.W.codeIn K cd13 "_law_back" = true) (k13 : PySem.W.keepIn K (.ref f13) = true)
    (a14 : PySem.W.nsIn K mainGlobals "_law_power" = some (some (.ref f14))) (l14 : K.lookup f14 = some ⟨oc14, od14, .func (PySem.W.fnOf "_law_power" "_law_power" (defArgs sLpo) (defBody sLpo) (defScope sLpo) .none kV14 dc14 pm14 an14 cd14 ct14), sl14⟩) (c14 : PySem.W.codeIn K cd14 "_law_power" = true) (k14 : PySem.W.keepIn K (.ref f14) = true)
    (a15 : PySem.W.nsIn K mainGlobals "_law_stands" = some (some (.ref f15))) (l15 : K.lookup f15 = some ⟨oc15, od15, .func (PySem.W.fnOf "_law_stands" "_law_stands" (defArgs sStd) (defBody sStd) (defScope sStd) .none kV15 dc15 pm15 an15 cd15 ct15), sl15⟩) (c15 : PySem.W.codeIn K cd15 "_law_stands" = true) (k15 : PySem.W.keepIn K (.ref f15) = true)
    (a16 : PySem.W.nsIn K mainGlobals "plain" = some (some (.ref f16))) (l16 : K.lookup f16 = some ⟨oc16, od16, .func (PySem.W.fnOf "plain" "plain" (defArgs sPln) (defBody sPln) (defScope sPln) .none kV16 dc16 pm16 an16 cd16 ct16), sl16⟩) (c16 : PySem.W.codeIn K cd16 "plain" = true) (k16 : PySem.W.keepIn K (.ref f16) = true)
    (a17 : PySem.W.nsIn K mainGlobals "only_signs" = some (some (.ref f17))) (l17 : K.lookup f17 = some ⟨oc17, od17, .func (PySem.W.fnOf "only_signs" "only_signs" (defArgs sOnly) (defBody sOnly) (defScope sOnly) .none kV17 dc17 pm17 an17 cd17 ct17), sl17⟩) (c17 : PySem.W.codeIn K cd17 "only_signs" = true) (k17 : PySem.W.keepIn K (.ref f17) = true)
    (a18 : PySem.W.nsIn K mainGlobals "is_head" = some (some (.ref f18))) (l18 : K.lookup f18 = some ⟨oc18, od18, .func (PySem.W.fnOf "is_head" "is_head" (defArgs sIsH) (defBody sIsH) (defScope sIsH) .none kV18 dc18 pm18 an18 cd18 ct18), sl18⟩) (c18 : PySem.W.codeIn K cd18 "is_head" = true) (k18 : PySem.W.keepIn K (.ref f18) = true)
    (a19 : PySem.W.nsIn K mainGlobals "need_head" = some (some (.ref f19))) (l19 : K.lookup f19 = some ⟨oc19, od19, .func (PySem.W.fnOf "need_head" "need_head" (defArgs sNeed) (defBody sNeed) (defScope sNeed) .none kV19 dc19 pm19 an19 cd19 ct19), sl19⟩) (c19 : PySem.W.codeIn K cd19 "need_head" = true) (k19 : PySem.W.keepIn K (.ref f19) = true)
    (a20 : PySem.W.nsIn K mainGlobals "fault" = some (some (.ref f20))) (l20 : K.lookup f20 = some ⟨oc20, od20, .func (PySem.W.fnOf "fault" "fault" (defArgs sFau) (defBody sFau) (defScope sFau) .none kV20 dc20 pm20 an20 cd20 ct20), sl20⟩) (c20 : PySem.W.codeIn K cd20 "fault" = true) (k20 : PySem.W.keepIn K (.ref f20) = true)
    (a21 : PySem.W.nsIn K mainGlobals "left_out" = some (some (.ref f21))) (l21 : K.lookup f21 = some ⟨oc21, od21, .func (PySem.W.fnOf "left_out" "left_out" (defArgs sLef) (defBody sLef) (defScope sLef) .none kV21 dc21 pm21 an21 cd21 ct21), sl21⟩) (c21 : PySem.W.codeIn K cd21 "left_out" = true) (k21 : PySem.W.keepIn K (.ref f21) = true)
    (a22 : PySem.W.nsIn K mainGlobals "following" = some (some (.ref f22))) (l22 : K.lookup f22 = some ⟨oc22, od22, .func (PySem.W.fnOf "following" "following" (defArgs sFol) (defBody sFol) (defScope sFol) .none kV22 dc22 pm22 an22 cd22 ct22), sl22⟩) (c22 : PySem.W.codeIn K cd22 "following" = true) (k22 : PySem.W.keepIn K (.ref f22) = true)
    (a23 : PySem.W.nsIn K mainGlobals "fewest_rows" = some (some (.ref f23))) (l23 : K.lookup f23 = some ⟨oc23, od23, .func (PySem.W.fnOf "fewest_rows" "fewest_rows" (defArgs sFr) (defBody sFr) (defScope sFr) .none kV23 dc23 pm23 an23 cd23 ct23), sl23⟩) (c23 : PySem.W.codeIn K cd23 "fewest_rows" = true) (k23 : PySem.W.keepIn K (.ref f23) = true)
    (a24 : PySem.W.nsIn K mainGlobals "need_table" = some (some (.ref f24))) (l24 : K.lookup f24 = some ⟨oc24, od24, .func (PySem.W.fnOf "need_table" "need_table" (defArgs sNt) (defBody sNt) (defScope sNt) .none kV24 dc24 pm24 an24 cd24 ct24), sl24⟩) (c24 : PySem.W.codeIn K cd24 "need_table" = true) (k24 : PySem.W.keepIn K (.ref f24) = true)
    (a25 : PySem.W.nsIn K mainGlobals "kept_rows" = some (some (.ref f25))) (l25 : K.lookup f25 = some ⟨oc25, od25, .func (PySem.W.fnOf "kept_rows" "kept_rows" (defArgs sKr) (defBody sKr) (defScope sKr) .none kV25 dc25 pm25 an25 cd25 ct25), sl25⟩) (c25 : PySem.W.codeIn K cd25 "kept_rows" = true) (k25 : PySem.W.keepIn K (.ref f25) = true)
    (a26 : PySem.W.nsIn K mainGlobals "moved" = some (some (.ref f26))) (l26 : K.lookup f26 = some ⟨oc26, od26, .func (PySem.W.fnOf "moved" "moved" (defArgs sMov) (defBody sMov) (defScope sMov) .none kV26 dc26 pm26 an26 cd26 ct26), sl26⟩) (c26 : PySem.W.codeIn K cd26 "moved" = true) (k26 : PySem.W.keepIn K (.ref f26) = true)
    (a27 : PySem.W.nsIn K mainGlobals "turned" = some (some (.ref f27))) (l27 : K.lookup f27 = some ⟨oc27, od27, .func (PySem.W.fnOf "turned" "turned" (defArgs sTur) (defBody sTur) (defScope sTur) .none kV27 dc27 pm27 an27 cd27 ct27), sl27⟩) (c27 : PySem.W.codeIn K cd27 "turned" = true) (k27 : PySem.W.keepIn K (.ref f27) = true)
    (a28 : PySem.W.nsIn K mainGlobals "common" = some (some (.ref f28))) (l28 : K.lookup f28 = some ⟨oc28, od28, .func (PySem.W.fnOf "common" "common" (defArgs sCom) (defBody sCom) (defScope sCom) .none kV28 dc28 pm28 an28 cd28 ct28), sl28⟩) (c28 : PySem.W.codeIn K cd28 "common" = true) (k28 : PySem.W.keepIn K (.ref f28) = true)
    (a29 : PySem.W.nsIn K mainGlobals "joined" = some (some (.ref f29))) (l29 : K.lookup f29 = some ⟨oc29, od29, .func (PySem.W.fnOf "joined" "joined" (defArgs sJoi) (defBody sJoi) (defScope sJoi) .none kV29 dc29 pm29 an29 cd29 ct29), sl29⟩) (c29 : PySem.W.codeIn K cd29 "joined" = true) (k29 : PySem.W.keepIn K (.ref f29) = true)
    (a30 : PySem.W.nsIn K mainGlobals "swap_of" = some (some (.ref f30))) (l30 : K.lookup f30 = some ⟨oc30, od30, .func (PySem.W.fnOf "swap_of" "swap_of" (defArgs sSwo) (defBody sSwo) (defScope sSwo) .none kV30 dc30 pm30 an30 cd30 ct30), sl30⟩) (c30 : PySem.W.codeIn K cd30 "swap_of" = true) (k30 : PySem.W.keepIn K (.ref f30) = true)
    (a31 : PySem.W.nsIn K mainGlobals "repeated" = some (some (.ref f31))) (l31 : K.lookup f31 = some ⟨oc31, od31, .func (PySem.W.fnOf "repeated" "repeated" (defArgs sRep2) (defBody sRep2) (defScope sRep2) .none kV31 dc31 pm31 an31 cd31 ct31), sl31⟩) (c31 : PySem.W.codeIn K cd31 "repeated" = true) (k31 : PySem.W.keepIn K (.ref f31) = true)
    (a32 : PySem.W.nsIn K mainGlobals "beside" = some (some (.ref f32))) (l32 : K.lookup f32 = some ⟨oc32, od32, .func (PySem.W.fnOf "beside" "beside" (defArgs sBes) (defBody sBes) (defScope sBes) .none kV32 dc32 pm32 an32 cd32 ct32), sl32⟩) (c32 : PySem.W.codeIn K cd32 "beside" = true) (k32 : PySem.W.keepIn K (.ref f32) = true)
    (a33 : PySem.W.nsIn K mainGlobals "apart" = some (some (.ref f33))) (l33 : K.lookup f33 = some ⟨oc33, od33, .func (PySem.W.fnOf "apart" "apart" (defArgs sAp) (defBody sAp) (defScope sAp) .none kV33 dc33 pm33 an33 cd33 ct33), sl33⟩) (c33 : PySem.W.codeIn K cd33 "apart" = true) (k33 : PySem.W.keepIn K (.ref f33) = true)
    (a34 : PySem.W.nsIn K mainGlobals "stand_apart" = some (some (.ref f34))) (l34 : K.lookup f34 = some ⟨oc34, od34, .func (PySem.W.fnOf "stand_apart" "stand_apart" (defArgs sStA) (defBody sStA) (defScope sStA) .none kV34 dc34 pm34 an34 cd34 ct34), sl34⟩) (c34 : PySem.W.codeIn K cd34 "stand_apart" = true) (k34 : PySem.W.keepIn K (.ref f34) = true)
    (a35 : PySem.W.nsIn K mainGlobals "plain_rows" = some (some (.ref f35))) (l35 : K.lookup f35 = some ⟨oc35, od35, .func (PySem.W.fnOf "plain_rows" "plain_rows" (defArgs sPlr) (defBody sPlr) (defScope sPlr) .none kV35 dc35 pm35 an35 cd35 ct35), sl35⟩) (c35 : PySem.W.codeIn K cd35 "plain_rows" = true) (k35 : PySem.W.keepIn K (.ref f35) = true)
    (a36 : PySem.W.nsIn K mainGlobals "law" = some (some (.ref f36))) (l36 : K.lookup f36 = some ⟨oc36, od36, .func (PySem.W.fnOf "law" "law" (defArgs sLaw) (defBody sLaw) (defScope sLaw) .none kV36 dc36 pm36 an36 (.ref tc) ct36), sl36⟩) (c36 : PySem.W.codeIn K (.ref tc) "law" = true) (k36 : PySem.W.keepIn K (.ref f36) = true)
    (tl : K.lookup tc = some ⟨toc, tod, .fields tvz, tsl⟩) (tp : tvz[11]? = some (.ref Pt)) (nt : PySem.W.noTabs K = true)
    (n_SwapError : PySem.W.nsIn K mainGlobals "SwapError" = some (some (.ref q_SwapError)))
    (n_Lacking : PySem.W.nsIn K mainGlobals "Lacking" = some (some (.ref q_Lacking)))
    (n_Held : PySem.W.nsIn K mainGlobals "Held" = some (some (.ref q_Held)))
    (n_BadHead : PySem.W.nsIn K mainGlobals "BadHead" = some (some (.ref q_BadHead)))
    (n_BadRing : PySem.W.nsIn K mainGlobals "BadRing" = some (some (.ref q_BadRing)))
    (n_BadNumber : PySem.W.nsIn K mainGlobals "BadNumber" = some (some (.ref q_BadNumber)))
    (n_BadTable : PySem.W.nsIn K mainGlobals "BadTable" = some (some (.ref q_BadTable)))
    (n_NotApart : PySem.W.nsIn K mainGlobals "NotApart" = some (some (.ref q_NotApart)))
    (n_TooGreat : PySem.W.nsIn K mainGlobals "TooGreat" = some (some (.ref q_TooGreat)))
    (n_BadName : PySem.W.nsIn K mainGlobals "BadName" = some (some (.ref q_BadName)))
    (n_Full : PySem.W.nsIn K mainGlobals "Full" = some (some (.ref q_Full)))
    (n_NoRule : PySem.W.nsIn K mainGlobals "NoRule" = some (some (.ref q_NoRule)))
    (n_BadText : PySem.W.nsIn K mainGlobals "BadText" = some (some (.ref q_BadText)))
    (n_Ring : PySem.W.nsIn K mainGlobals "Ring" = some (some (.ref q_Ring)))
    (n_Breaks : PySem.W.nsIn K mainGlobals "Breaks" = some (some (.ref q_Breaks)))
    (n_NoName : PySem.W.nsIn K mainGlobals "NoName" = some (some (.ref q_NoName)))
    (n_NothingLeft : PySem.W.nsIn K mainGlobals "NothingLeft" = some (some (.ref q_NothingLeft)))
    (n_Taken : PySem.W.nsIn K mainGlobals "Taken" = some (some (.ref q_Taken)))
    (n_InUse : PySem.W.nsIn K mainGlobals "InUse" = some (some (.ref q_InUse)))
    (s1_SwapError : PySem.W.subIn K (.ref q_SwapError) (.type "BaseException") = some true) (s2_SwapError : PySem.W.isClsIn K q_SwapError = true) (s3_SwapError : PySem.W.typeIn K (.ref q_SwapError) = some (.type "type"))
    (s1_Lacking : PySem.W.subIn K (.ref q_Lacking) (.type "BaseException") = some true) (s2_Lacking : PySem.W.isClsIn K q_Lacking = true) (s3_Lacking : PySem.W.typeIn K (.ref q_Lacking) = some (.type "type"))
    (s1_Held : PySem.W.subIn K (.ref q_Held) (.type "BaseException") = some true) (s2_Held : PySem.W.isClsIn K q_Held = true) (s3_Held : PySem.W.typeIn K (.ref q_Held) = some (.type "type"))
    (x_BadHead : PySem.W.excIn K q_BadHead [.type "ValueError", .type "Exception", .type "BaseException", .type "object"] "ValueError.__new__" = true)
    (x_BadNumber : PySem.W.excIn K q_BadNumber [.type "ValueError", .type "Exception", .type "BaseException", .type "object"] "ValueError.__new__" = true)
    (xa_BadNumber : PySem.W.findIn K (.ref q_BadNumber) "__getattribute__" = some (some (.builtin "BaseException.__getattribute__"))) (xe_BadNumber : PySem.W.findIn K (.ref q_BadNumber) "__getattr__" = some none) (xf_BadNumber : PySem.W.subIn K (.ref q_BadNumber) (.type "BaseException") = some true) (xb_BadNumber : PySem.W.hasDictIn K q_BadNumber = true) (xc_BadNumber : PySem.W.findIn K (.ref q_BadNumber) "__class__" = some (some (.builtin "object.__class__"))) (xd_BadNumber : PySem.W.mroIn K q_BadNumber (.type "object") = some true)
    (e_BadNumber_SwapError : PySem.W.subIn K (.ref q_BadNumber) (.ref q_SwapError) = some true)
    (e_BadNumber_Lacking : PySem.W.subIn K (.ref q_BadNumber) (.ref q_Lacking) = some false)
    (e_BadNumber_Held : PySem.W.subIn K (.ref q_BadNumber) (.ref q_Held) = some false)
    (k_BadNumber_BadHead : PySem.W.kitOne K (.ref q_BadNumber) (.ref q_BadHead) = some false)
    (k_BadNumber_BadRing : PySem.W.kitOne K (.ref q_BadNumber) (.ref q_BadRing) = some false)
    (k_BadNumber_BadNumber : PySem.W.kitOne K (.ref q_BadNumber) (.ref q_BadNumber) = some true)
    (k_BadNumber_BadTable : PySem.W.kitOne K (.ref q_BadNumber) (.ref q_BadTable) = some false)
    (k_BadNumber_NotApart : PySem.W.kitOne K (.ref q_BadNumber) (.ref q_NotApart) = some false)
    (k_BadNumber_TooGreat : PySem.W.kitOne K (.ref q_BadNumber) (.ref q_TooGreat) = some false)
    (k_BadNumber_BadName : PySem.W.kitOne K (.ref q_BadNumber) (.ref q_BadName) = some false)
    (k_BadNumber_Full : PySem.W.kitOne K (.ref q_BadNumber) (.ref q_Full) = some false)
    (k_BadNumber_NoRule : PySem.W.kitOne K (.ref q_BadNumber) (.ref q_NoRule) = some false)
    (k_BadNumber_BadText : PySem.W.kitOne K (.ref q_BadNumber) (.ref q_BadText) = some false)
    (k_BadNumber_Ring : PySem.W.kitOne K (.ref q_BadNumber) (.ref q_Ring) = some false)
    (k_BadNumber_Breaks : PySem.W.kitOne K (.ref q_BadNumber) (.ref q_Breaks) = some false)
    (k_BadNumber_NoName : PySem.W.kitOne K (.ref q_BadNumber) (.ref q_NoName) = some false)
    (k_BadNumber_NothingLeft : PySem.W.kitOne K (.ref q_BadNumber) (.ref q_NothingLeft) = some false)
    (k_BadNumber_Taken : PySem.W.kitOne K (.ref q_BadNumber) (.ref q_Taken) = some false)
    (k_BadNumber_InUse : PySem.W.kitOne K (.ref q_BadNumber) (.ref q_InUse) = some false)
    (x_NotApart : PySem.W.excIn K q_NotApart [.type "ValueError", .type "Exception", .type "BaseException", .type "object"] "ValueError.__new__" = true)
    (c_LONGEST : PySem.W.nsIn K mainGlobals "LONGEST" = some (some (.int 60 tk_LONGEST)))
    (c_MOST_ROWS : PySem.W.nsIn K mainGlobals "MOST_ROWS" = some (some (.int 64 tk_MOST_ROWS)))
    (c_POWERS : PySem.W.nsIn K mainGlobals "POWERS" = some (some (.int 60 tk_POWERS)))
    (z_abs : PySem.W.nsIn K mainGlobals "abs" = some none)
    (z_len : PySem.W.nsIn K mainGlobals "len" = some none)
    (z_list : PySem.W.nsIn K mainGlobals "list" = some none)
    (z_range : PySem.W.nsIn K mainGlobals "range" = some none)
    (z_isinstance : PySem.W.nsIn K mainGlobals "isinstance" = some none)
    (z_int : PySem.W.nsIn K mainGlobals "int" = some none)
    (z_bool : PySem.W.nsIn K mainGlobals "bool" = some none)
    (z_str : PySem.W.nsIn K mainGlobals "str" = some none)
    (z_tuple : PySem.W.nsIn K mainGlobals "tuple" = some none)
    (z_all : PySem.W.nsIn K mainGlobals "all" = some none)
    (z_max : PySem.W.nsIn K mainGlobals "max" = some none)
    (z_min : PySem.W.nsIn K mainGlobals "min" = some none)
    (z_sorted : PySem.W.nsIn K mainGlobals "sorted" = some none)
    (z_zip : PySem.W.nsIn K mainGlobals "zip" = some none)
    (z_enumerate : PySem.W.nsIn K mainGlobals "enumerate" = some none)
    (z_dict : PySem.W.nsIn K mainGlobals "dict" = some none)
    (z_repr : PySem.W.nsIn K mainGlobals "repr" = some none)
    : ∃ c Pt : Addr, PySem.W.tabIn K "law" = some (c, Pt) ∧ PySem.W.noTabs K = true ∧ (∀ (H : Hp) (a : Addr) (ns : List Int), ns.length ≤ 63 → H Pt = some (.tbl #[]) → SqL K H a (ns.map V.int) → spLawK K [.ref a] H (fun v _ => v = .bl true) fun _ _ _ => False) ∧
      ∃ fd : FuncData, (∀ (s : Shared) (v : Value), BindsTo s fd ⟨[v], []⟩ [("_law_script", v)]) ∧ ∀ base : Heap, K.In base → base.Ns mainGlobals mg → PySem.W.CodeHd base c Pt → Bm mg base → FnOk l.prog w K mg base CX0 14 fa fd ["_law_script"] (spLawK K) := by
  have e := hfa.symm.trans (PySem.W.mg_of X G a36)
  cases e
  have T : Txt mg := ⟨PySem.W.mg_none_of X G z_abs, PySem.W.mg_none_of X G z_len, PySem.W.mg_none_of X G z_list, PySem.W.mg_none_of X G z_range, PySem.W.mg_none_of X G z_isinstance, PySem.W.mg_none_of X G z_int, PySem.W.mg_none_of X G z_bool, PySem.W.mg_none_of X G z_str, PySem.W.mg_none_of X G z_tuple, PySem.W.mg_none_of X G z_all, PySem.W.mg_none_of X G z_max, PySem.W.mg_none_of X G z_min, PySem.W.mg_none_of X G z_sorted, PySem.W.mg_none_of X G z_zip, PySem.W.mg_none_of X G z_enumerate, PySem.W.mg_none_of X G z_dict, PySem.W.mg_none_of X G z_repr⟩
  have M_X : XM mg (⟨q_SwapError, q_Lacking, q_Held, q_BadHead, q_BadRing, q_BadNumber, q_BadTable, q_NotApart, q_TooGreat, q_BadName, q_Full, q_NoRule, q_BadText, q_Ring, q_Breaks, q_NoName, q_NothingLeft, q_Taken, q_InUse⟩ : XA) := ⟨PySem.W.mg_of X G n_SwapError, PySem.W.mg_of X G n_Lacking, PySem.W.mg_of X G n_Held, PySem.W.mg_of X G n_BadHead, PySem.W.mg_of X G n_BadRing, PySem.W.mg_of X G n_BadNumber, PySem.W.mg_of X G n_BadTable, PySem.W.mg_of X G n_NotApart, PySem.W.mg_of X G n_TooGreat, PySem.W.mg_of X G n_BadName, PySem.W.mg_of X G n_Full, PySem.W.mg_of X G n_NoRule, PySem.W.mg_of X G n_BadText, PySem.W.mg_of X G n_Ring, PySem.W.mg_of X G n_Breaks, PySem.W.mg_of X G n_NoName, PySem.W.mg_of X G n_NothingLeft, PySem.W.mg_of X G n_Taken, PySem.W.mg_of X G n_InUse⟩
  have R_BadHead : Ref K mg "BadHead" q_BadHead := ⟨PySem.W.mg_of X G n_BadHead, x_BadHead⟩
  have R_BadNumber : Ref K mg "BadNumber" q_BadNumber := ⟨PySem.W.mg_of X G n_BadNumber, x_BadNumber⟩
  have B_BadNumber : XK1 K (⟨q_SwapError, q_Lacking, q_Held, q_BadHead, q_BadRing, q_BadNumber, q_BadTable, q_NotApart, q_TooGreat, q_BadName, q_Full, q_NoRule, q_BadText, q_Ring, q_Breaks, q_NoName, q_NothingLeft, q_Taken, q_InUse⟩ : XA) q_BadNumber bNum := ⟨⟨xa_BadNumber, xe_BadNumber, xf_BadNumber, xb_BadNumber, xc_BadNumber, t2, t3, xd_BadNumber⟩, exm3_mk (exm_mk s1_SwapError s2_SwapError s3_SwapError e_BadNumber_SwapError) (exm_mk s1_Lacking s2_Lacking s3_Lacking e_BadNumber_Lacking) (exm_mk s1_Held s2_Held s3_Held e_BadNumber_Held) rfl, k_BadNumber_BadHead, k_BadNumber_BadRing, k_BadNumber_BadNumber, k_BadNumber_BadTable, k_BadNumber_NotApart, k_BadNumber_TooGreat, k_BadNumber_BadName, k_BadNumber_Full, k_BadNumber_NoRule, k_BadNumber_BadText, k_BadNumber_Ring, k_BadNumber_Breaks, k_BadNumber_NoName, k_BadNumber_NothingLeft, k_BadNumber_Taken, k_BadNumber_InUse⟩
  have R_NotApart : Ref K mg "NotApart" q_NotApart := ⟨PySem.W.mg_of X G n_NotApart, x_NotApart⟩
  have C_LONGEST : ∃ t, mg "LONGEST" = some (.int 60 t) := ⟨_, PySem.W.mg_of X G c_LONGEST⟩
  have C_MOST_ROWS : ∃ t, mg "MOST_ROWS" = some (.int 64 t) := ⟨_, PySem.W.mg_of X G c_MOST_ROWS⟩
  have C_POWERS : ∃ t, mg "POWERS" = some (.int 60 t) := ⟨_, PySem.W.mg_of X G c_POWERS⟩
  have CL_C : Cls K C := ⟨pg_C, hd_C, po_C, sa_C⟩
  have GC0 := funD_mk (st := sSin) mlC0 mcC0 mpC0
  have BC0 : Binds K (PySem.W.fnOf "__init__" "Swap.__init__" (defArgs sSin) (defBody sSin) (defScope sSin) (.ref dAC0) lVC0 ecC0 qmC0 bnC0 ddC0 dtC0) ["self", "rows"] [] := kd2 fun S u v => peek_load daC0 peek_pure
  have DC0 : Binds K (PySem.W.fnOf "__init__" "Swap.__init__" (defArgs sSin) (defBody sSin) (defScope sSin) (.ref dAC0) lVC0 ecC0 qmC0 bnC0 ddC0 dtC0) ["self", "rows"] [.ref dBC0] := kd1 fun S u => peek_load daC0 peek_pure
  have TC0 : ∀ H, BT K false H dBC0 [([], [])] := fun H => ⟨[dCC0], .inr ⟨_, _, _, dbC0, rfl, rfl, by show 1 ≤ sizeLine; decide, .cons rfl .nil⟩, .cons (by show SqT K H dCC0 [.str (tx []), .str (tx [])]; rw [tx_nil]; exact .inr ⟨_, _, _, dcC0, rfl, rfl, by show 2 ≤ sizeLine; decide, .cons ⟨_, rfl⟩ (.cons ⟨_, rfl⟩ .nil)⟩) .nil⟩
  have GC1 := fun_mk (st := sSrows) mlC1 mcC1 mpC1
  have BC1 := GC1.binds (ps := ["self"]) fun _ _ _ _ _ _ us hl => match us, hl with | [_], _ => rfl
  have GC2 := fun_mk (st := sSlen) mlC2 mcC2 mpC2
  have BC2 := GC2.binds (ps := ["self"]) fun _ _ _ _ _ _ us hl => match us, hl with | [_], _ => rfl
  have GC3 := fun_mk (st := sSeq) mlC3 mcC3 mpC3
  have BC3 := GC3.binds (ps := ["self", "other"]) fun _ _ _ _ _ _ us hl => match us, hl with | [_, _], _ => rfl
  have GC4 := fun_mk (st := sPow) mlC4 mcC4 mpC4
  have BC4 := GC4.binds (ps := ["self", "many"]) fun _ _ _ _ _ _ us hl => match us, hl with | [_, _], _ => rfl
  have SC : SwC K mg C := ⟨CL_C, na_C_table, PySem.W.mg_of X G a_C, t1_C, t2, t3, t4_C⟩
  have M : Mk K C gC0 := ⟨mk_C, maC0, miC0, kc_C⟩
  have m_rows : SDef K C "rows" "Swap.rows" sSrows ["self"] gC1 _ := ⟨GC1, BC1, ⟨maC1, miC1, mpC1⟩⟩
  have m___len__ : SDef K C "__len__" "Swap.__len__" sSlen ["self"] gC2 _ := ⟨GC2, BC2, ⟨maC2, miC2, mpC2⟩⟩
  have m___eq__ : SDef K C "__eq__" "Swap.__eq__" sSeq ["self", "other"] gC3 _ := ⟨GC3, BC3, ⟨maC3, miC3, mpC3⟩⟩
  have m_power : SDef K C "power" "Swap.power" sPow ["self", "many"] gC4 _ := ⟨GC4, BC4, ⟨maC4, miC4, mpC4⟩⟩
  have F0 := fun_mk (st := sOpen) l0 c0 k0
  have D0 : Def K mg "_law_open" sOpen ["_law_script"] f0 _ := ⟨F0, F0.binds (ps := ["_law_script"]) fun _ _ _ _ _ _ us hl => match us, hl with | [_], _ => rfl, PySem.W.mg_of X G a0⟩
  have D__law_open := D0
  have F1 := fun_mk (st := sDraw) l1 c1 k1
  have D1 : Def K mg "_law_draw" sDraw ["_law_box", "_law_many"] f1 _ := ⟨F1, F1.binds (ps := ["_law_box", "_law_many"]) fun _ _ _ _ _ _ us hl => match us, hl with | [_, _], _ => rfl, PySem.W.mg_of X G a1⟩
  have D__law_draw := D1
  have F2 := fun_mk (st := sInt) l2 c2 k2
  have D2 : Def K mg "_law_int" sInt ["_law_found"] f2 _ := ⟨F2, F2.binds (ps := ["_law_found"]) fun _ _ _ _ _ _ us hl => match us, hl with | [_], _ => rfl, PySem.W.mg_of X G a2⟩
  have D__law_int := D2
  have F3 := fun_mk (st := sLike) l3 c3 k3
  have D3 : Def K mg "_law_like" sLike ["_law_found", "_law_due"] f3 _ := ⟨F3, F3.binds (ps := ["_law_found", "_law_due"]) fun _ _ _ _ _ _ us hl => match us, hl with | [_, _], _ => rfl, PySem.W.mg_of X G a3⟩
  have D__law_like := D3
  have F4 := fun_mk (st := sKind) l4 c4 k4
  have D4 : Def K mg "_law_kind" sKind ["_law_e"] f4 _ := ⟨F4, F4.binds (ps := ["_law_e"]) fun _ _ _ _ _ _ us hl => match us, hl with | [_], _ => rfl, PySem.W.mg_of X G a4⟩
  have D__law_kind := D4
  have F5 := fun_mk (st := sWhy) l5 c5 k5
  have D5 : Def K mg "_law_why" sWhy ["_law_ask"] f5 _ := ⟨F5, F5.binds (ps := ["_law_ask"]) fun _ _ _ _ _ _ us hl => match us, hl with | [_], _ => rfl, PySem.W.mg_of X G a5⟩
  have D__law_why := D5
  have F6 := fun_mk (st := sFar) l6 c6 k6
  have D6 : Def K mg "_law_far" sFar ["_law_box"] f6 _ := ⟨F6, F6.binds (ps := ["_law_box"]) fun _ _ _ _ _ _ us hl => match us, hl with | [_], _ => rfl, PySem.W.mg_of X G a6⟩
  have D__law_far := D6
  have F7 := fun_mk (st := sCut) l7 c7 k7
  have D7 : Def K mg "_law_cut" sCut ["_law_box", "_law_many"] f7 _ := ⟨F7, F7.binds (ps := ["_law_box", "_law_many"]) fun _ _ _ _ _ _ us hl => match us, hl with | [_, _], _ => rfl, PySem.W.mg_of X G a7⟩
  have D__law_cut := D7
  have F8 := fun_mk (st := sMix) l8 c8 k8
  have D8 : Def K mg "_law_mixed" sMix ["_law_box", "_law_row"] f8 _ := ⟨F8, F8.binds (ps := ["_law_box", "_law_row"]) fun _ _ _ _ _ _ us hl => match us, hl with | [_, _], _ => rfl, PySem.W.mg_of X G a8⟩
  have D__law_mixed := D8
  have F9 := fun_mk (st := sLrows) l9 c9 k9
  have D9 : Def K mg "_law_rows" sLrows ["_law_box", "_law_most"] f9 _ := ⟨F9, F9.binds (ps := ["_law_box", "_law_most"]) fun _ _ _ _ _ _ us hl => match us, hl with | [_, _], _ => rfl, PySem.W.mg_of X G a9⟩
  have D__law_rows := D9
  have F10 := fun_mk (st := sLfew) l10 c10 k10
  have D10 : Def K mg "_law_few" sLfew ["_law_rows_here"] f10 _ := ⟨F10, F10.binds (ps := ["_law_rows_here"]) fun _ _ _ _ _ _ us hl => match us, hl with | [_], _ => rfl, PySem.W.mg_of X G a10⟩
  have D__law_few := D10
  have F11 := fun_mk (st := sOnw) l11 c11 k11
  have D11 : Def K mg "_law_onward" sOnw ["_law_rows_here", "_law_head"] f11 _ := ⟨F11, F11.binds (ps := ["_law_rows_here", "_law_head"]) fun _ _ _ _ _ _ us hl => match us, hl with | [_, _], _ => rfl, PySem.W.mg_of X G a11⟩
  have D__law_onward := D11
  have F12 := fun_mk (st := sLth) l12 c12 k12
  have D12 : Def K mg "_law_then" sLth ["_law_first", "_law_second"] f12 _ := ⟨F12, F12.binds (ps := ["_law_first", "_law_second"]) fun _ _ _ _ _ _ us hl => match us, hl with | [_, _], _ => rfl, PySem.W.mg_of X G a12⟩
  have D__law_then := D12
  have F13 := fun_mk (st := sLbk) l13 c13 k13
  have D13 : Def K mg "_law_back" sLbk ["_law_rows_here"] f13 _ := ⟨F13, F13.binds (ps := ["_law_rows_here"]) fun _ _ _ _ _ _ us hl => match us, hl with | [_], _ => rfl, PySem.W.mg_of X G a13⟩
  have D__law_back := D13
  have F14 := fun_mk (st := sLpo) l14 c14 k14
  have D14 : Def K mg "_law_power" sLpo ["_law_rows_here", "_law_many"] f14 _ := ⟨F14, F14.binds (ps := ["_law_rows_here", "_law_many"]) fun _ _ _ _ _ _ us hl => match us, hl with | [_, _], _ => rfl, PySem.W.mg_of X G a14⟩
  have D__law_power := D14
  have F15 := fun_mk (st := sStd) l15 c15 k15
  have D15 : Def K mg "_law_stands" sStd ["_law_found", "_law_rows_here"] f15 _ := ⟨F15, F15.binds (ps := ["_law_found", "_law_rows_here"]) fun _ _ _ _ _ _ us hl => match us, hl with | [_, _], _ => rfl, PySem.W.mg_of X G a15⟩
  have D__law_stands := D15
  have F16 := fun_mk (st := sPln) l16 c16 k16
  have D16 : Def K mg "plain" sPln ["one", "other"] f16 _ := ⟨F16, F16.binds (ps := ["one", "other"]) fun _ _ _ _ _ _ us hl => match us, hl with | [_, _], _ => rfl, PySem.W.mg_of X G a16⟩
  have D_plain := D16
  have F17 := fun_mk (st := sOnly) l17 c17 k17
  have D17 : Def K mg "only_signs" sOnly ["text"] f17 _ := ⟨F17, F17.binds (ps := ["text"]) fun _ _ _ _ _ _ us hl => match us, hl with | [_], _ => rfl, PySem.W.mg_of X G a17⟩
  have D_only_signs := D17
  have F18 := fun_mk (st := sIsH) l18 c18 k18
  have D18 : Def K mg "is_head" sIsH ["text"] f18 _ := ⟨F18, F18.binds (ps := ["text"]) fun _ _ _ _ _ _ us hl => match us, hl with | [_], _ => rfl, PySem.W.mg_of X G a18⟩
  have D_is_head := D18
  have F19 := fun_mk (st := sNeed) l19 c19 k19
  have D19 : Def K mg "need_head" sNeed ["text"] f19 _ := ⟨F19, F19.binds (ps := ["text"]) fun _ _ _ _ _ _ us hl => match us, hl with | [_], _ => rfl, PySem.W.mg_of X G a19⟩
  have D_need_head := D19
  have F20 := fun_mk (st := sFau) l20 c20 k20
  have D20 : Def K mg "fault" sFau ["heads"] f20 _ := ⟨F20, F20.binds (ps := ["heads"]) fun _ _ _ _ _ _ us hl => match us, hl with | [_], _ => rfl, PySem.W.mg_of X G a20⟩
  have D_fault := D20
  have F21 := fun_mk (st := sLef) l21 c21 k21
  have D21 : Def K mg "left_out" sLef ["heads"] f21 _ := ⟨F21, F21.binds (ps := ["heads"]) fun _ _ _ _ _ _ us hl => match us, hl with | [_], _ => rfl, PySem.W.mg_of X G a21⟩
  have D_left_out := D21
  have F22 := fun_mk (st := sFol) l22 c22 k22
  have D22 : Def K mg "following" sFol ["head"] f22 _ := ⟨F22, F22.binds (ps := ["head"]) fun _ _ _ _ _ _ us hl => match us, hl with | [_], _ => rfl, PySem.W.mg_of X G a22⟩
  have D_following := D22
  have F23 := fun_mk (st := sFr) l23 c23 k23
  have D23 : Def K mg "fewest_rows" sFr ["rows"] f23 _ := ⟨F23, F23.binds (ps := ["rows"]) fun _ _ _ _ _ _ us hl => match us, hl with | [_], _ => rfl, PySem.W.mg_of X G a23⟩
  have D_fewest_rows := D23
  have F24 := fun_mk (st := sNt) l24 c24 k24
  have D24 : Def K mg "need_table" sNt ["rows"] f24 _ := ⟨F24, F24.binds (ps := ["rows"]) fun _ _ _ _ _ _ us hl => match us, hl with | [_], _ => rfl, PySem.W.mg_of X G a24⟩
  have D_need_table := D24
  have F25 := fun_mk (st := sKr) l25 c25 k25
  have D25 : Def K mg "kept_rows" sKr ["rows"] f25 _ := ⟨F25, F25.binds (ps := ["rows"]) fun _ _ _ _ _ _ us hl => match us, hl with | [_], _ => rfl, PySem.W.mg_of X G a25⟩
  have D_kept_rows := D25
  have F26 := fun_mk (st := sMov) l26 c26 k26
  have D26 : Def K mg "moved" sMov ["head", "row"] f26 _ := ⟨F26, F26.binds (ps := ["head", "row"]) fun _ _ _ _ _ _ us hl => match us, hl with | [_, _], _ => rfl, PySem.W.mg_of X G a26⟩
  have D_moved := D26
  have F27 := fun_mk (st := sTur) l27 c27 k27
  have D27 : Def K mg "turned" sTur ["rows"] f27 _ := ⟨F27, F27.binds (ps := ["rows"]) fun _ _ _ _ _ _ us hl => match us, hl with | [_], _ => rfl, PySem.W.mg_of X G a27⟩
  have D_turned := D27
  have F28 := fun_mk (st := sCom) l28 c28 k28
  have D28 : Def K mg "common" sCom ["one", "other"] f28 _ := ⟨F28, F28.binds (ps := ["one", "other"]) fun _ _ _ _ _ _ us hl => match us, hl with | [_, _], _ => rfl, PySem.W.mg_of X G a28⟩
  have D_common := D28
  have F29 := fun_mk (st := sJoi) l29 c29 k29
  have D29 : Def K mg "joined" sJoi ["rows", "second"] f29 _ := ⟨F29, F29.binds (ps := ["rows", "second"]) fun _ _ _ _ _ _ us hl => match us, hl with | [_, _], _ => rfl, PySem.W.mg_of X G a29⟩
  have D_joined := D29
  have F30 := fun_mk (st := sSwo) l30 c30 k30
  have D30 : Def K mg "swap_of" sSwo ["rows"] f30 _ := ⟨F30, F30.binds (ps := ["rows"]) fun _ _ _ _ _ _ us hl => match us, hl with | [_], _ => rfl, PySem.W.mg_of X G a30⟩
  have D_swap_of := D30
  have F31 := fun_mk (st := sRep2) l31 c31 k31
  have D31 : Def K mg "repeated" sRep2 ["rows", "many"] f31 _ := ⟨F31, F31.binds (ps := ["rows", "many"]) fun _ _ _ _ _ _ us hl => match us, hl with | [_, _], _ => rfl, PySem.W.mg_of X G a31⟩
  have D_repeated := D31
  have F32 := fun_mk (st := sBes) l32 c32 k32
  have D32 : Def K mg "beside" sBes ["head"] f32 _ := ⟨F32, F32.binds (ps := ["head"]) fun _ _ _ _ _ _ us hl => match us, hl with | [_], _ => rfl, PySem.W.mg_of X G a32⟩
  have D_beside := D32
  have F33 := fun_mk (st := sAp) l33 c33 k33
  have D33 : Def K mg "apart" sAp ["one", "other"] f33 _ := ⟨F33, F33.binds (ps := ["one", "other"]) fun _ _ _ _ _ _ us hl => match us, hl with | [_, _], _ => rfl, PySem.W.mg_of X G a33⟩
  have D_apart := D33
  have F34 := fun_mk (st := sStA) l34 c34 k34
  have D34 : Def K mg "stand_apart" sStA ["one", "other"] f34 _ := ⟨F34, F34.binds (ps := ["one", "other"]) fun _ _ _ _ _ _ us hl => match us, hl with | [_, _], _ => rfl, PySem.W.mg_of X G a34⟩
  have D_stand_apart := D34
  have F35 := fun_mk (st := sPlr) l35 c35 k35
  have D35 : Def K mg "plain_rows" sPlr ["one", "other"] f35 _ := ⟨F35, F35.binds (ps := ["one", "other"]) fun _ _ _ _ _ _ us hl => match us, hl with | [_, _], _ => rfl, PySem.W.mg_of X G a35⟩
  have D_plain_rows := D35
  have F36 := fun_mk (st := sLaw) l36 c36 k36
  have tb := tab_mk a36 l36 rfl tl tp
  refine ⟨tc, Pt, tb, nt, fun H a ns _ hP hS => ⟨a, ns, rfl, hS, fun c' P' e => ?_, fun _ => rfl⟩, PySem.W.fnOf "law" "law" (defArgs sLaw) (defBody sLaw) (defScope sLaw) .none kV36 dc36 pm36 an36 (.ref tc) ct36, fun s v => .of_eq rfl, fun base _ _ hC hB => ?_⟩
  · rw [tb] at e
    cases e
    exact TabOk.start hP
  · exact (ok_law F36 rfl hC hB T SC M BC0 DC0 TC0 kl ki D__law_open D__law_draw D__law_int D__law_like D__law_kind D__law_why D__law_far D__law_cut D__law_mixed D__law_rows D__law_few D__law_onward D__law_then D__law_back D__law_power D__law_stands D_plain (ok_pln D_plain.fn D_apart (ok_ap D_apart.fn D_only_signs D_is_head D_need_head D_stand_apart T C_LONGEST R_BadHead) D_plain_rows (ok_plr D_plain_rows.fn D_beside D_common T) D_swap_of (ok_swo D_swap_of.fn M DC0 TC0 (ok_sin GC0 D_need_table (ok_nt D_need_table.fn D_only_signs D_is_head D_need_head D_fault D_left_out D_following T C_LONGEST R_BadHead) D_kept_rows (ok_kr D_kept_rows.fn D_fewest_rows T C_MOST_ROWS) SC) D_kept_rows (ok_kr D_kept_rows.fn D_fewest_rows T C_MOST_ROWS) SC) R_NotApart) (ok_sin GC0 D_need_table (ok_nt D_need_table.fn D_only_signs D_is_head D_need_head D_fault D_left_out D_following T C_LONGEST R_BadHead) D_kept_rows (ok_kr D_kept_rows.fn D_fewest_rows T C_MOST_ROWS) SC) m_rows m___len__ m___eq__ m_power (ok_pow m_power.fn D_turned D_repeated (ok_rpt D_repeated.fn D_joined (ok_joi D_joined.fn D_turned D_common D_moved D_fewest_rows T)) D_swap_of (ok_swo D_swap_of.fn M DC0 TC0 (ok_sin GC0 D_need_table (ok_nt D_need_table.fn D_only_signs D_is_head D_need_head D_fault D_left_out D_following T C_LONGEST R_BadHead) D_kept_rows (ok_kr D_kept_rows.fn D_fewest_rows T C_MOST_ROWS) SC) D_kept_rows (ok_kr D_kept_rows.fn D_fewest_rows T C_MOST_ROWS) SC) SC T C_POWERS) (ok_powI m_power.fn D_turned D_repeated (ok_rptI D_repeated.fn D_joined (ok_joi D_joined.fn D_turned D_common D_moved D_fewest_rows T)) D_swap_of (ok_swo D_swap_of.fn M DC0 TC0 (ok_sin GC0 D_need_table (ok_nt D_need_table.fn D_only_signs D_is_head D_need_head D_fault D_left_out D_following T C_LONGEST R_BadHead) D_kept_rows (ok_kr D_kept_rows.fn D_fewest_rows T C_MOST_ROWS) SC) D_kept_rows (ok_kr D_kept_rows.fn D_fewest_rows T C_MOST_ROWS) SC) SC T C_POWERS) (ok_powX m_power.fn T C_POWERS R_BadNumber) C_POWERS M_X B_BadNumber).imp fun vs H Q E ⟨a, ns, e1, e2, e3, e4⟩ => ⟨a, ns, e1, e2, e3 _ _ tb, e4⟩
theorem walk {l : PySem.W.OpenLaw} {q : Program} {loose : List Str} {XP : (Str → Option Value) → Heap → Prop} {YP : World → Heap → Prop} {d : DefRec} {K : Params → PySem.W.Frag} (hn : l.most = some 63) (hdf : d.params.defaults = []) (hd : d.name = "law")
    (hY : ∀ (w : World) (h : Heap), YP w h → (K w.params).In h) (hrec : (PyProof.Rows.recsOf q).find? (fun e => e.name == d.name) = some d)
    (F : ∀ (w : World) (mg : Str → Option Value) (fa : Addr) (h : Heap), (K w.params).In h → h.Ns mainGlobals mg → mg "law" = some (.ref fa) →
      ∃ c Pt : Addr, PySem.W.tabIn (K w.params) "law" = some (c, Pt) ∧ PySem.W.noTabs (K w.params) = true ∧ (∀ (H : Hp) (a : Addr) (ns : List Int), ns.length ≤ 63 → H Pt = some (.tbl #[]) → SqL (K w.params) H a (ns.map V.int) → spLawK (K w.params) [.ref a] H (fun v _ => v = .bl true) fun _ _ _ => False) ∧
      ∃ fd : FuncData, (∀ (s : Shared) (u : Value), BindsTo s fd ⟨[u], []⟩ [("_law_script", u)]) ∧ ∀ base : Heap, (K w.params).In base → base.Ns mainGlobals mg → PySem.W.CodeHd base c Pt → Bm mg base → FnOk l.prog w (K w.params) mg base CX0 14 fa fd ["_law_script"] (spLawK (K w.params))) :
    PySem.W.WalkO q loose XP YP l.row.toRowW d [] (fun f vs => PySem.call f vs) :=
  L2.walk_ofT (n := 63) (k := 14) (x := "_law_script") (CX := fun _ => CX0) (sp := fun w => spLawK (K w.params)) hn (by decide) hdf ⟨rfl, by decide, by decide⟩ hY hrec (by rw [hd]; exact F) fun _ _ _ _ _ z => z
end Hs
open PySem PySem.W PyProof.Rows
set_option maxRecDepth 100000 in
set_option maxHeartbeats 0 in
theorem PySem.Challenge.cw_headswap_k14_powers_holds : PySem.Challenge.rw_headswap_k14_powers.Holds := by
  w_on; o_law; k_head; (case hw => w_witness2)
  k_fill
  refine Hs.walk (l := PySem.Challenge.rw_headswap_k14_powers) rfl rfl rfl (fun w h Y => PySem.W.km_in_of Y) rfl ?F
  case F =>
    intro w mg fa h KX G hmg
    refine' Hs.all_mk KX G hmg ?a_C ?pg_C ?hd_C ?po_C ?sa_C ?mk_C ?kc_C ?t1_C ?t4_C ?na_C_table ?kl ?ki ?maC0 ?miC0 ?mlC0 ?mcC0 ?mpC0 ?daC0 ?dbC0 ?dcC0 ?maC1 ?miC1 ?mlC1 ?mcC1 ?mpC1 ?maC2 ?miC2 ?mlC2 ?mcC2 ?mpC2 ?maC3 ?miC3 ?mlC3 ?mcC3 ?mpC3 ?maC4 ?miC4 ?mlC4 ?mcC4 ?mpC4 ?t2 ?t3 ?a0 ?l0 ?c0 ?k0 ?a1 ?l1 ?c1 ?k1 ?a2 ?l2 ?c2 ?k2 ?a3 ?l3 ?c3 ?k3 ?a4 ?l4 ?c4 ?k4 ?a5 ?l5 ?c5 ?k5 ?a6 ?l6 ?c6 ?k6 ?a7 ?l7 ?c7 ?k7 ?a8 ?l8 ?c8 ?k8 ?a9 ?l9 ?c9 ?k9 ?a10 ?l10 ?c10 ?k10 ?a11 ?l11 ?c11 ?k11 ?a12 ?l12 ?c12 ?k12 ?a13 ?l13 ?c13 ?k13 ?a14 ?l14 ?c14 ?k14 ?a15 ?l15 ?c15 ?k15 ?a16 ?l16 ?c16 ?k16 ?a17 ?l17 ?c17 ?k17 ?a18 ?l18 ?c18 ?k18 ?a19 ?l19 ?c19 ?k19 ?a20 ?l20 ?c20 ?k20 ?a21 ?l21 ?c21 ?k21 ?a22 ?l22 ?c22 ?k22 ?a23 ?l23 ?c23 ?k23 ?a24 ?l24 ?c24 ?k24 ?a25 ?l25 ?c25 ?k25 ?a26 ?l26 ?c26 ?k26 ?a27 ?l27 ?c27 ?k27 ?a28 ?l28 ?c28 ?k28 ?a29 ?l29 ?c29 ?k29 ?a30 ?l30 ?c30 ?k30 ?a31 ?l31 ?c31 ?k31 ?a32 ?l32 ?c32 ?k32 ?a33 ?l33 ?c33 ?k33 ?a34 ?l34 ?c34 ?k34 ?a35 ?l35 ?c35 ?k35 ?a36 ?l36 ?c36 ?k36 ?tl ?tp ?nt ?n_SwapError ?n_Lacking ?n_Held ?n_BadHead ?n_BadRing ?n_BadNumber ?n_BadTable ?n_NotApart ?n_TooGreat ?n_BadName ?n_Full ?n_NoRule ?n_BadText ?n_Ring ?n_Breaks ?n_NoName ?n_NothingLeft ?n_Taken ?n_InUse ?s1_SwapError ?s2_SwapError ?s3_SwapError ?s1_Lacking ?s2_Lacking ?s3_Lacking ?s1_Held ?s2_Held ?s3_Held ?x_BadHead ?x_BadNumber ?xa_BadNumber ?xe_BadNumber ?xf_BadNumber ?xb_BadNumber ?xc_BadNumber ?xd_BadNumber ?e_BadNumber_SwapError ?e_BadNumber_Lacking ?e_BadNumber_Held ?k_BadNumber_BadHead ?k_BadNumber_BadRing ?k_BadNumber_BadNumber ?k_BadNumber_BadTable ?k_BadNumber_NotApart ?k_BadNumber_TooGreat ?k_BadNumber_BadName ?k_BadNumber_Full ?k_BadNumber_NoRule ?k_BadNumber_BadText ?k_BadNumber_Ring ?k_BadNumber_Breaks ?k_BadNumber_NoName ?k_BadNumber_NothingLeft ?k_BadNumber_Taken ?k_BadNumber_InUse ?x_NotApart ?c_LONGEST ?c_MOST_ROWS ?c_POWERS ?z_abs ?z_len ?z_list ?z_range ?z_isinstance ?z_int ?z_bool ?z_str ?z_tuple ?z_all ?z_max ?z_min ?z_sorted ?z_zip ?z_enumerate ?z_dict ?z_repr
    (case a_C => k_is)
    (case pg_C => k_is)
    (case hd_C => k_is)
    (case po_C => k_is)
    (case sa_C => k_is)
    (case mk_C => k_is)
    (case kc_C => k_is)
    (case t1_C => k_is)
    (case t4_C => k_is)
    (case na_C_table => k_is)
    (case kl => kit_is)
    (case ki => kit_is)
    (case maC0 => k_is)
    (case miC0 => k_is)
    (case mlC0 => k_is)
    (case mcC0 => k_is)
    (case mpC0 => k_is)
    (case daC0 => k_is)
    (case dbC0 => k_is)
    (case dcC0 => k_is)
    (case maC1 => k_is)
    (case miC1 => k_is)
    (case mlC1 => k_is)
    (case mcC1 => k_is)
    (case mpC1 => k_is)
    (case maC2 => k_is)
    (case miC2 => k_is)
    (case mlC2 => k_is)
    (case mcC2 => k_is)
    (case mpC2 => k_is)
    (case maC3 => k_is)
    (case miC3 => k_is)
    (case mlC3 => k_is)
    (case mcC3 => k_is)
    (case mpC3 => k_is)
    (case maC4 => k_is)
    (case miC4 => k_is)
    (case mlC4 => k_is)
    (case mcC4 => k_is)
    (case mpC4 => k_is)
    (case t2 => k_is)
    (case t3 => k_is)
    (case a0 => k_is)
    (case l0 => k_is)
    (case c0 => k_is)
    (case k0 => k_is)
    (case a1 => k_is)
    (case l1 => k_is)
    (case c1 => k_is)
    (case k1 => k_is)
    (case a2 => k_is)
    (case l2 => k_is)
    (case c2 => k_is)
    (case k2 => k_is)
    (case a3 => k_is)
    (case l3 => k_is)
    (case c3 => k_is)
    (case k3 => k_is)
    (case a4 => k_is)
    (case l4 => k_is)
    (case c4 => k_is)
    (case k4 => k_is)
    (case a5 => k_is)
    (case l5 => k_is)
    (case c5 => k_is)
    (case k5 => k_is)
    (case a6 => k_is)
    (case l6 => k_is)
    (case c6 => k_is)
    (case k6 => k_is)
    (case a7 => k_is)
    (case l7 => k_is)
    (case c7 => k_is)
    (case k7 => k_is)
    (case a8 => k_is)
    (case l8 => k_is)
    (case c8 => k_is)
    (case k8 => k_is)
    (case a9 => k_is)
    (case l9 => k_is)
    (case c9 => k_is)
    (case k9 => k_is)
    (case a10 => k_is)
    (case l10 => k_is)
    (case c10 => k_is)
    (case k10 => k_is)
    (case a11 => k_is)
    (case l11 => k_is)
    (case c11 => k_is)
    (case k11 => k_is)
    (case a12 => k_is)
    (case l12 => k_is)
    (case c12 => k_is)
    (case k12 => k_is)
    (case a13 => k_is)
    (case l13 => k_is)
    (case c13 => k_is)
    (case k13 => k_is)
    (case a14 => k_is)
    (case l14 => k_is)
    (case c14 => k_is)
    (case k14 => k_is)
    (case a15 => k_is)
    (case l15 => k_is)
    (case c15 => k_is)
    (case k15 => k_is)
    (case a16 => k_is)
    (case l16 => k_is)
    (case c16 => k_is)
    (case k16 => k_is)
    (case a17 => k_is)
    (case l17 => k_is)
    (case c17 => k_is)
    (case k17 => k_is)
    (case a18 => k_is)
    (case l18 => k_is)
    (case c18 => k_is)
    (case k18 => k_is)
    (case a19 => k_is)
    (case l19 => k_is)
    (case c19 => k_is)
    (case k19 => k_is)
    (case a20 => k_is)
    (case l20 => k_is)
    (case c20 => k_is)
    (case k20 => k_is)
    (case a21 => k_is)
    (case l21 => k_is)
    (case c21 => k_is)
    (case k21 => k_is)
    (case a22 => k_is)
    (case l22 => k_is)
    (case c22 => k_is)
    (case k22 => k_is)
    (case a23 => k_is)
    (case l23 => k_is)
    (case c23 => k_is)
    (case k23 => k_is)
    (case a24 => k_is)
    (case l24 => k_is)
    (case c24 => k_is)
    (case k24 => k_is)
    (case a25 => k_is)
    (case l25 => k_is)
    (case c25 => k_is)
    (case k25 => k_is)
    (case a26 => k_is)
    (case l26 => k_is)
    (case c26 => k_is)
    (case k26 => k_is)
    (case a27 => k_is)
    (case l27 => k_is)
    (case c27 => k_is)
    (case k27 => k_is)
    (case a28 => k_is)
    (case l28 => k_is)
    (case c28 => k_is)
    (case k28 => k_is)
    (case a29 => k_is)
    (case l29 => k_is)
    (case c29 => k_is)
    (case k29 => k_is)
    (case a30 => k_is)
    (case l30 => k_is)
    (case c30 => k_is)
    (case k30 => k_is)
    (case a31 => k_is)
    (case l31 => k_is)
    (case c31 => k_is)
    (case k31 => k_is)
    (case a32 => k_is)
    (case l32 => k_is)
    (case c32 => k_is)
    (case k32 => k_is)
    (case a33 => k_is)
    (case l33 => k_is)
    (case c33 => k_is)
    (case k33 => k_is)
    (case a34 => k_is)
    (case l34 => k_is)
    (case c34 => k_is)
    (case k34 => k_is)
    (case a35 => k_is)
    (case l35 => k_is)
    (case c35 => k_is)
    (case k35 => k_is)
    (case a36 => k_is)
    (case l36 => k_is)
    (case c36 => k_is)
    (case k36 => k_is)
    (case tl => k_is)
    (case tp => exact rfl)
    (case nt => kernel_rfl)
    (case n_SwapError => k_is)
    (case n_Lacking => k_is)
    (case n_Held => k_is)
    (case n_BadHead => k_is)
    (case n_BadRing => k_is)
    (case n_BadNumber => k_is)
    (case n_BadTable => k_is)
    (case n_NotApart => k_is)
    (case n_TooGreat => k_is)
    (case n_BadName => k_is)
    (case n_Full => k_is)
    (case n_NoRule => k_is)
    (case n_BadText => k_is)
    (case n_Ring => k_is)
    (case n_Breaks => k_is)
    (case n_NoName => k_is)
    (case n_NothingLeft => k_is)
    (case n_Taken => k_is)
    (case n_InUse => k_is)
    (case s1_SwapError => k_is)
    (case s2_SwapError => k_is)
    (case s3_SwapError => k_is)
    (case s1_Lacking => k_is)
    (case s2_Lacking => k_is)
    (case s3_Lacking => k_is)
    (case s1_Held => k_is)
    (case s2_Held => k_is)
    (case s3_Held => k_is)
    (case x_BadHead => k_exc)
    (case x_BadNumber => k_exc)
    (case xa_BadNumber => k_is)
    (case xe_BadNumber => k_is)
    (case xf_BadNumber => k_is)
    (case xb_BadNumber => k_is)
    (case xc_BadNumber => k_is)
    (case xd_BadNumber => k_is)
    (case e_BadNumber_SwapError => k_is)
    (case e_BadNumber_Lacking => k_is)
    (case e_BadNumber_Held => k_is)
    (case k_BadNumber_BadHead => kit_is)
    (case k_BadNumber_BadRing => kit_is)
    (case k_BadNumber_BadNumber => kit_is)
    (case k_BadNumber_BadTable => kit_is)
    (case k_BadNumber_NotApart => kit_is)
    (case k_BadNumber_TooGreat => kit_is)
    (case k_BadNumber_BadName => kit_is)
    (case k_BadNumber_Full => kit_is)
    (case k_BadNumber_NoRule => kit_is)
    (case k_BadNumber_BadText => kit_is)
    (case k_BadNumber_Ring => kit_is)
    (case k_BadNumber_Breaks => kit_is)
    (case k_BadNumber_NoName => kit_is)
    (case k_BadNumber_NothingLeft => kit_is)
    (case k_BadNumber_Taken => kit_is)
    (case k_BadNumber_InUse => kit_is)
    (case x_NotApart => k_exc)
    (case c_LONGEST => k_is)
    (case c_MOST_ROWS => k_is)
    (case c_POWERS => k_is)
    (case z_abs => k_is)
    (case z_len => k_is)
    (case z_list => k_is)
    (case z_range => k_is)
    (case z_isinstance => k_is)
    (case z_int => k_is)
    (case z_bool => k_is)
    (case z_str => k_is)
    (case z_tuple => k_is)
    (case z_all => k_is)
    (case z_max => k_is)
    (case z_min => k_is)
    (case z_sorted => k_is)
    (case z_zip => k_is)
    (case z_enumerate => k_is)
    (case z_dict => k_is)
    (case z_repr => k_is)

