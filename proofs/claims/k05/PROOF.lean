import PyProof.Rows.All
import Wide.All
import OpenK.AllK
import Wide.FinOn
import PyProof.EqAt
import PyProof.EqKinds
import PyProof.TupleCall
import KE.BitLaws
import KE.KSortTup
import KE.KRevIter
import PyProof.Draws
import PyProof.GenQ
import PyProof.TupleOfGen
import KE.KStar
import PyProof.FactsAll.tuple_2
import KE.KTupSum
import PyProof.SumAny
import PyProof.DictCompW
import PyProof.ListRange
import PyProof.WalkInts
import PyProof.Rows.CallKwBuiltin
import PyProof.Rows.SetFrom
import PyProof.SetRoads
import PyProof.Rows.FStr
import PyProof.StrLawsChain
import PyProof.StrLawsTight
import KE.KIntText
import PySem.Challenge.RW_pairtally_k05_webs_written_and_read
set_option Elab.async false
set_option linter.all false
set_option maxRecDepth 100000
-- CHANGE: your row's module here, as the last of these rows
/-! THE HAND LAYER, for ints, bools, texts, own classes, lists, tuples, dicts, comprehensions, walks over dicts, enumerate, zip, reversed, texts, calls, loops. Paste it whole ahead of your own text; what your proof does not reach may be deleted. -/
namespace L2
open PySem PySem.Spec PyProof.Rows

/-- a key: an int or a str -/
abbrev Key := Sum Int Str
def keyIs : Key → Value → Bool
  | .inl k, v => Value.isInt k v
  | .inr x, v => Value.isStrOf x v
def keyH (w : World) : Key → Int
  | .inl k => hashInt k
  | .inr x => hashStr w x
theorem keyIs_shape : ∀ {k : Key} {v : Value}, keyIs k v = true → (∃ i t, k = Sum.inl i ∧ v = Value.int i t) ∨ (∃ x t, k = Sum.inr x ∧ v = Value.str x t)
  | .inl i, v, h => by
    obtain ⟨t, e⟩ := Value.isInt_shape (k := i) (v := v) h
    exact .inl ⟨i, t, rfl, e⟩
  | .inr x, v, h => by
    obtain ⟨t, e⟩ := Value.isStrOf_shape (x := x) (v := v) h
    exact .inr ⟨x, t, rfl, e⟩
theorem key_ll (a b : Int) : decide ((Sum.inl a : Key) = Sum.inl b) = (a == b) := by
  by_cases e : a = b
  · subst e; simp
  · have h : ¬ (Sum.inl a : Key) = Sum.inl b := fun q => e (Sum.inl.inj q)
    rw [decide_eq_false h]
    exact (beq_eq_false_iff_ne.mpr e).symm
theorem key_rr (a b : Str) : decide ((Sum.inr a : Key) = Sum.inr b) = decide (a = b) := by
  by_cases e : a = b
  · subst e; simp
  · have h : ¬ (Sum.inr a : Key) = Sum.inr b := fun q => e (Sum.inr.inj q)
    rw [decide_eq_false h, decide_eq_false e]
theorem key_lr (a : Int) (b : Str) : decide ((Sum.inl a : Key) = Sum.inr b) = false := decide_eq_false (fun q => nomatch q)
theorem key_rl (a : Str) (b : Int) : decide ((Sum.inr a : Key) = Sum.inl b) = false := decide_eq_false (fun q => nomatch q)

def mixKind (prog : Program) (w : World) : PySem.KeyKind prog w Key where
  is := keyIs
  hash := keyH w
  inj := fun v a b ha hb => by
    rcases keyIs_shape ha with ⟨i, t, rfl, rfl⟩ | ⟨x, t, rfl, rfl⟩
    · rcases keyIs_shape hb with ⟨j, u, rfl, e⟩ | ⟨y, u, rfl, e⟩
      · injection e with e1 _; rw [e1]
      · exact nomatch e
    · rcases keyIs_shape hb with ⟨j, u, rfl, e⟩ | ⟨y, u, rfl, e⟩
      · exact nomatch e
      · injection e with e1 _; rw [e1]
  byValue := fun k v h => by
    rcases keyIs_shape h with ⟨i, t, rfl, rfl⟩ | ⟨x, t, rfl, rfl⟩ <;> rfl
  pyHash := fun hv h => by
    rcases keyIs_shape hv with ⟨i, t, rfl, rfl⟩ | ⟨x, t, rfl, rfl⟩
    · exact wpAny_pyHash_int h
    · exact wpAny_pyHash_str h
  eqBool := fun hu hv h => by
    rcases keyIs_shape hu with ⟨i, t, rfl, rfl⟩ | ⟨x, t, rfl, rfl⟩
    · rcases keyIs_shape hv with ⟨j, u, rfl, rfl⟩ | ⟨y, u, rfl, rfl⟩
      · rw [key_ll] at h; exact wpAny_eqBool_int h
      · rw [key_lr] at h; exact SeqAt.EqAt.int_str i t y u _ _ _ _ h
    · rcases keyIs_shape hv with ⟨j, u, rfl, rfl⟩ | ⟨y, u, rfl, rfl⟩
      · rw [key_rl] at h; exact SeqAt.EqAt.str_int x t j u _ _ _ _ h
      · rw [key_rr] at h; exact wpAny_eqBool_str h
  «strs» := fun k x t v h => by
    rcases keyIs_shape h with ⟨i, u, rfl, e⟩ | ⟨y, u, rfl, e⟩
    · exact nomatch e
    · injection e with e1 _
      subst e1
      cases v <;> rfl

end L2

namespace L2
open PySem PySem.Spec PyProof.Rows

/-- a value, without the heap -/
inductive V where
  | non | bl (b : Bool) | int (i : Int) | str (x : Str) | byt (b : Array UInt8) | flt (b : UInt64) | ref (a : Addr) | ty (n : String)
  deriving DecidableEq

def RelV : V → Value → Prop
  | .non, u => u = Value.none
  | .bl b, u => u = Value.bool b
  | .int i, u => ∃ t, u = Value.int i t
  | .str x, u => ∃ t, u = Value.str x t
  | .byt b, u => ∃ t, u = Value.bytes b t
  | .flt b, u => ∃ t, u = Value.float b t
  | .ref a, u => u = Value.ref a
  | .ty n, u => u = Value.type n

abbrev Vals : List V → List Value → Prop := Paired RelV
theorem Vals.length {xs : List V} {us : List Value} (r : Vals xs us) : xs.length = us.length := Paired.length r
theorem Vals.get : ∀ {xs : List V} {us : List Value} {i : Nat} {x : V}, Vals xs us → xs[i]? = some x → ∃ u, us[i]? = some u ∧ RelV x u
  | _, _, _, _, .nil, e => by simp at e
  | _, _, 0, _, .cons r _, e => by simp at e; subst e; exact ⟨_, rfl, r⟩
  | _, _, i + 1, x, .cons _ t, e => by
    obtain ⟨u, h1, h2⟩ := Vals.get (i := i) (x := x) t (by simpa using e)
    exact ⟨u, by simpa using h1, h2⟩
theorem Vals.set {x : V} {u : Value} (r : RelV x u) : ∀ {xs : List V} {us : List Value} (i : Nat), Vals xs us → Vals (xs.set i x) (us.set i u)
  | _, _, _, .nil => .nil
  | _, _, 0, .cons _ t => .cons r t
  | _, _, i + 1, .cons q t => .cons q (Vals.set r i t)
theorem Vals.append : ∀ {xs ys : List V} {us ws : List Value}, Vals xs us → Vals ys ws → Vals (xs ++ ys) (us ++ ws)
  | _, _, _, _, .nil, s => s
  | _, _, _, _, .cons r t, s => .cons r (Vals.append t s)
theorem Vals.take : ∀ {xs : List V} {us : List Value} (n : Nat), Vals xs us → Vals (xs.take n) (us.take n)
  | _, _, 0, _ => .nil
  | _, _, _ + 1, .nil => .nil
  | _, _, n + 1, .cons r t => .cons r (Vals.take n t)
theorem Vals.drop : ∀ {xs : List V} {us : List Value} (n : Nat), Vals xs us → Vals (xs.drop n) (us.drop n)
  | _, _, 0, r => r
  | _, _, _ + 1, .nil => .nil
  | _, _, n + 1, .cons _ t => Vals.drop n t
def RelO : Option V → Option Value → Prop
  | some v, some u => RelV v u
  | none, none => True
  | _, _ => False
def KV {κ : Type} : List (κ × V) → List (κ × Value) → Prop := Paired fun (p : κ × V) (q : κ × Value) => p.1 = q.1 ∧ RelV p.2 q.2

/-- a key of a dict (00_mix): an int or a text -/
def kV : Key → V
  | .inl i => .int i
  | .inr x => .str x

/-- what stands at a tracked address -/
inductive HO where
  /-- a list -/
  | lst (xs : List V)
  /-- a tuple (never changes) -/
  | tup (xs : List V)
  /-- a dict whose keys are ints and texts; one whose keys are tuples of ints and texts (the empty one is both) -/
  | dK (kvs : List (Key × V)) | dT (kvs : List (List Key × V))
  /-- a set of ints: its members, its size -/
  | set (S : Int → Bool) (n : Nat)
  /-- an instance of the class at C, its dict at dx, its attributes -/
  | ins (C dx : Addr) (fs : List (Str × V))
  /-- the dict of the instance at x -/
  | own (x : Addr)
  /-- the dict of an exception -/
  | xd (fs : List (Str × V))
  /-- a bound method, f of x -/
  | met (f x : Addr)
  /-- a range object lo, lo + 1, .. below hi -/
  | rng (lo hi : Int)
  /-- a thing that is known to the object (the script; a dict while a loop walks it): read, never written while it is so -/
  | frz (o : Obj) (u : HO)
  /-- a code object's table -/
  | tbl (ps : Array Value)
  /-- any other thing, by what is true of its one object (a def of one's own: SetO a S n := HO.ext fun h => ..) -/
  | ext (φ : Heap → Prop)

abbrev Hp := Addr → Option HO
def upd (H : Hp) (a : Addr) (o : HO) : Hp := fun b => if b = a then some o else H b
theorem upd_same {H : Hp} {a : Addr} {o : HO} : upd H a o a = some o := by unfold upd; rw [if_pos rfl]
theorem upd_ne {H : Hp} {a b : Addr} {o : HO} (h : b ≠ a) : upd H a o b = H b := by unfold upd; rw [if_neg h]
/-- two objects of different content stand apart -/
theorem ne_of {H : Hp} {a b : Addr} {o u : HO} (h : H a = some o) (h' : H b = some u) (d : o ≠ u) : a ≠ b := by
  intro e; subst e; rw [h] at h'; exact d (Option.some.inj h')
theorem ne_of_none {H : Hp} {a b : Addr} {o : HO} (h : H a = some o) (h' : H b = none) : a ≠ b := by
  intro e; subst e; rw [h] at h'; cases h'

section
variable (P : Program) (w : World)
def ObjOk (H : Hp) (h : Heap) (a : Addr) : HO → Prop
  | .lst xs => xs.length ≤ sizeLine ∧ ∃ (its : List Value) (n : Nat), Vals xs its ∧ h.get? a = some { cls := .type "list", data := .seq its.toArray n }
  | .tup xs => xs.length ≤ sizeLine ∧ ∃ its : List Value, Vals xs its ∧ IsTup h a its.toArray
  | .dK kvs => kvs.length ≤ sizeLine ∧ (a == sysModules) = false ∧ ∃ vs, KV kvs vs ∧ h.DictOf (mixKind P w) a vs
  | .dT kvs => kvs.length ≤ sizeLine ∧ (a == sysModules) = false ∧ ∃ xs : List (List Key × Addr × Value),
      Paired (fun (p : List Key × V) (q : List Key × Addr × Value) => p.1 = q.1 ∧ H q.2.1 = some (.tup (p.1.map kV)) ∧ RelV p.2 q.2.2) kvs xs ∧
      ∃ o es ep, h.get? a = some o ∧ o.ExactDict ∧ o.data = .dict es ep ∧ es.toList = xs.map (entryOfKey (tupleKind (mixKind P w))) ∧ (xs.map (·.1)).Nodup
  | .set S n => h.SetOf (intKind P w) a S n
  | .ins C dx fs => H dx = some (.own a) ∧ fs.length ≤ 1000 ∧ dx ≠ a ∧ h.get? a = some (PySem.W.instObj C dx) ∧
      ∃ mA, h.Ns1 dx mA ∧ (∀ f, RelO (fs.lookup f) (mA f)) ∧ PySem.Within mA (fs.map (·.1))
  | .own _ => ∃ o, h.get? a = some o
  | .xd fs => ∃ mA, h.Ns1 a mA ∧ ∀ f, RelO (fs.lookup f) (mA f)
  | .rng lo hi => ∃ t u v, h.get? a = some { cls := .type "range", data := .fields #[.int lo t, .int hi u, .int 1 v] }
  | .frz o u => h.get? a = some o ∧ ObjOk H h a u
  | .tbl ps => h.get? a = some { cls := .none, data := .fields ps } ∧ TriplesOk ps.toList
  | .met f x => h.get? a = some (PySem.W.methodObj (.ref f) (.ref x))
  | .ext φ => φ h ∧ (∃ o, h.get? a = some o) ∧ ∀ h1 h2 : Heap, φ h1 → (∀ o, h1.get? a = some o → h2.get? a = some o) → φ h2
/-- the abstract heap is held -/
def HOk (H : Hp) (h : Heap) : Prop := ∀ a o, H a = some o → ObjOk P w H h a o
end

section
variable {P : Program} {w : World} {H H' : Hp} {h h' : Heap} {a : Addr} {o : HO}
theorem ObjOk.lt (x : ObjOk P w H h a o) : a < h.objs.size := by
  cases o with
  | lst xs => obtain ⟨_, _, _, _, e⟩ := x; exact Heap.lt_size e
  | tup xs => obtain ⟨_, _, _, p⟩ := x; exact p.lt
  | dK kvs => obtain ⟨_, _, _, _, o, _, _, e, _⟩ := x; exact Heap.lt_size e
  | dT kvs => obtain ⟨_, _, _, _, o, _, _, e, _⟩ := x; exact Heap.lt_size e
  | set S n => obtain ⟨o, _, _, _, e, _⟩ := x; exact Heap.lt_size e
  | ins C dx fs => obtain ⟨_, _, _, e, _⟩ := x; exact Heap.lt_size e
  | own y => obtain ⟨_, e⟩ := x; exact Heap.lt_size e
  | xd fs => obtain ⟨_, ⟨_, _, _, e, _⟩, _⟩ := x; exact Heap.lt_size e
  | rng lo hi => obtain ⟨_, _, _, e⟩ := x; exact Heap.lt_size e
  | frz ob u => obtain ⟨e, _⟩ := x; exact Heap.lt_size e
  | tbl ps => exact Heap.lt_size (show h.get? a = some _ from x.1)
  | met f y => exact Heap.lt_size (show h.get? a = some _ from x)
  | ext φ => obtain ⟨_, ⟨_, e⟩, _⟩ := x; exact Heap.lt_size e
theorem Paired.mapP {α β : Type} {F G : α → β → Prop} : ∀ {l₁ : List α} {l₂ : List β}, Paired F l₁ l₂ → (∀ a b, F a b → G a b) → Paired G l₁ l₂
  | _, _, .nil, _ => .nil
  | _, _, .cons r t, f => .cons (f _ _ r) (Paired.mapP t f)
/-- what an object's description leans on: its own object, its own dict, the tuples -/
theorem ObjOk.stay (x : ObjOk P w H h a o) (k : ∀ b u, (b = a ∨ H b = some (.own a)) → h.get? b = some u → h'.get? b = some u)
    (ho : ∀ b, H b = some (.own a) → H' b = some (.own a)) (ht : ∀ b xs, H b = some (.tup xs) → H' b = some (.tup xs)) : ObjOk P w H' h' a o := by
  induction o with
  | lst xs => obtain ⟨z, its, n, r, e⟩ := x; exact ⟨z, its, n, r, k _ _ (.inl rfl) e⟩
  | tup xs => obtain ⟨z, its, r, ob, e, c⟩ := x; exact ⟨z, its, r, ob, k _ _ (.inl rfl) e, c⟩
  | dK kvs => obtain ⟨z, y, vs, r, ob, es, ep, e, c⟩ := x; exact ⟨z, y, vs, r, ob, es, ep, k _ _ (.inl rfl) e, c⟩
  | dT kvs =>
    obtain ⟨z, y, xs, r, ob, es, ep, e, c⟩ := x
    exact ⟨z, y, xs, Paired.mapP r fun p q z => ⟨z.1, ht _ _ z.2.1, z.2.2⟩, ob, es, ep, k _ _ (.inl rfl) e, c⟩
  | set S n => obtain ⟨ob, es, ep, t, e, c⟩ := x; exact ⟨ob, es, ep, t, k _ _ (.inl rfl) e, c⟩
  | ins C dx fs =>
    obtain ⟨d, z, ne, e, mA, ⟨od, es, ep, e2, c⟩, r⟩ := x
    exact ⟨ho _ d, z, ne, k _ _ (.inl rfl) e, mA, ⟨od, es, ep, k _ _ (.inr d) e2, c⟩, r⟩
  | own y => obtain ⟨ob, e⟩ := x; exact ⟨ob, k _ _ (.inl rfl) e⟩
  | xd fs => obtain ⟨mA, ⟨od, es, ep, e, c⟩, r⟩ := x; exact ⟨mA, ⟨od, es, ep, k _ _ (.inl rfl) e, c⟩, r⟩
  | rng lo hi => obtain ⟨t, u, v, e⟩ := x; exact ⟨t, u, v, k _ _ (.inl rfl) e⟩
  | frz ob u ih => obtain ⟨e, q⟩ := x; exact ⟨k _ _ (.inl rfl) e, ih q⟩
  | tbl ps =>
    exact ⟨k a _ (.inl rfl) x.1, x.2⟩
  | met f y =>
    have e : h.get? a = some (PySem.W.methodObj (.ref f) (.ref y)) := x
    show h'.get? a = some (PySem.W.methodObj (.ref f) (.ref y))
    exact k a _ (.inl rfl) e
  | ext φ => obtain ⟨p, ⟨o, e⟩, st⟩ := x; exact ⟨st _ _ p fun o q => k _ _ (.inl rfl) q, ⟨o, k _ _ (.inl rfl) e⟩, st⟩
theorem HOk.lt (x : HOk P w H h) (e : H a = some o) : a < h.objs.size := (x a o e).lt
theorem HOk.fresh (x : HOk P w H h) (e : h.objs.size ≤ a) : H a = none := by
  cases q : H a with
  | none => rfl
  | some u => exact absurd (Nat.lt_of_lt_of_le (x.lt q) e) (Nat.lt_irrefl _)
/-- every object of the heap is kept -/
theorem HOk.kept (x : HOk P w H h) (k : ∀ b u, h.get? b = some u → h'.get? b = some u) : HOk P w H h' := fun a o e =>
  (x a o e).stay (fun b u _ q => k b u q) (fun _ q => q) fun _ _ q => q
/-- a new object is laid and tracked -/
theorem HOk.laid (x : HOk P w H h) (k : ∀ b u, h.get? b = some u → h'.get? b = some u) (hp : h.objs.size ≤ a) (new : ObjOk P w (upd H a o) h' a o) : HOk P w (upd H a o) h' := fun b u e => by
  have hn := x.fresh hp
  by_cases hb : b = a
  · subst hb; rw [upd_same] at e; cases e; exact new
  · rw [upd_ne hb] at e
    exact (x b u e).stay (fun c v _ q => k c v q) (fun c q => by rw [upd_ne (ne_of_none q hn)]; exact q) fun c xs q => by rw [upd_ne (ne_of_none q hn)]; exact q
end

/-- what may be read as u: it is u, or a known u -/
def Rd (H : Hp) (a : Addr) (u : HO) : Prop := H a = some u ∨ ∃ o, H a = some (.frz o u)
theorem Rd.of {H : Hp} {a : Addr} {u : HO} (h : H a = some u) : Rd H a u := .inl h
theorem Rd.ok {P : Program} {w : World} {H : Hp} {h : Heap} {a : Addr} {u : HO} (r : Rd H a u) (x : HOk P w H h) : ObjOk P w H h a u := by
  rcases r with r | ⟨o, r⟩
  · exact x a u r
  · obtain ⟨_, q⟩ := x a _ r
    exact q
/-- what may be written -/
def Mut : Option HO → Prop
  | some (.lst _) => True
  | some (.dK _) => True
  | some (.dT _) => True
  | some (.set _ _) => True
  | some (.ins _ _ _) => True
  | some (.ext _) => True
  | _ => False
section
variable {P : Program} {w : World} {H : Hp} {h h' : Heap} {x e : Addr} {o' : HO}
/-- the object at e is changed: x itself, or the dict of the instance x -/
theorem HOk.write (ok : HOk P w H h) (mu : Mut (H x)) (he : e = x ∨ H e = some (.own x)) (k : ∀ b u, b ≠ e → h.get? b = some u → h'.get? b = some u) (heo : ∃ u, h'.get? e = some u)
    (new : ObjOk P w (upd H x o') h' x o') : HOk P w (upd H x o') h' := fun b u q => by
  have nown : ∀ c y, H c = some (.own y) → c ≠ x := fun c y r z => by subst z; rw [r] at mu; exact mu
  have ntup : ∀ c xs, H c = some (.tup xs) → c ≠ x := fun c xs r z => by subst z; rw [r] at mu; exact mu
  by_cases hb : b = x
  · subst hb; rw [upd_same] at q; cases q; exact new
  · rw [upd_ne hb] at q
    by_cases hbe : b = e
    · have q' : H b = some (.own x) := by
        rcases he with z | z
        · exact absurd (hbe.trans z) hb
        · rw [hbe]; exact z
      rw [q] at q'; cases q'
      obtain ⟨v, hv⟩ := heo
      exact ⟨v, by rw [hbe]; exact hv⟩
    · refine (ok b u q).stay (fun c v hc r => k c v ?_ r) (fun c r => by rw [upd_ne (nown c b r)]; exact r) fun c xs r => by rw [upd_ne (ntup c xs r)]; exact r
      rcases hc with rfl | hc
      · exact hbe
      · rintro rfl
        rcases he with z | z
        · exact nown c b hc z
        · rw [hc] at z; cases z; exact hb rfl
end

/-! ### kept unless tracked; of the frames at fs (the callers') the slots may change (an exception that passes writes there); of the records at ex (iterators) nothing is said -/
structure Un (fs ex : List Addr) (H H' : Hp) (h h' : Heap) : Prop where
  keep : ∀ b o, h.get? b = some o → H b = none → b ∉ fs → b ∉ ex → h'.get? b = some o
  slot : ∀ b o, h.get? b = some o → H b = none → b ∈ fs → b ∉ ex → ∃ sl, h'.get? b = some { o with slots := sl }
  free : ∀ b o, h.get? b = some o → H b = none → b ∉ ex → H' b = none
  there : ∀ b o, h.get? b = some o → b ∉ ex → ∃ o', h'.get? b = some o'
  tups : ∀ b xs, H b = some (.tup xs) → H' b = some (.tup xs)
  frzs : ∀ b o u, H b = some (.frz o u) → H' b = some (.frz o u)
  tbls : ∀ b ps, H b = some (.tbl ps) → ∃ more, H' b = some (.tbl (ps ++ more))
section
variable {fs fs' ex ex' : List Addr} {H H1 H2 : Hp} {h h1 h2 h' : Heap} {a x e : Addr} {o : HO}
theorem Un.any (u : Un fs ex H H1 h h1) {b : Addr} {ob : Obj} (q : h.get? b = some ob) (n : H b = none) (hx : b ∉ ex) : ∃ sl, h1.get? b = some { ob with slots := sl } := by
  by_cases hb : b ∈ fs
  · exact u.slot b ob q n hb hx
  · exact ⟨ob.slots, u.keep b ob q n hb hx⟩
theorem Un.trans (a : Un fs ex H H1 h h1) (b : Un fs ex H1 H2 h1 h2) : Un fs ex H H2 h h2 where
  keep := fun c ob q n hc hx => b.keep c ob (a.keep c ob q n hc hx) (a.free c ob q n hx) hc hx
  slot := fun c ob q n hc hx => by
    obtain ⟨sl, e1⟩ := a.slot c ob q n hc hx
    obtain ⟨sl', e2⟩ := b.slot c _ e1 (a.free c ob q n hx) hc hx
    exact ⟨sl', e2⟩
  free := fun c ob q n hx => by
    obtain ⟨o', e1⟩ := a.there c ob q hx
    exact b.free c o' e1 (a.free c ob q n hx) hx
  there := fun c ob q hx => by
    obtain ⟨o', e1⟩ := a.there c ob q hx
    exact b.there c o' e1 hx
  tups := fun c xs q => b.tups c xs (a.tups c xs q)
  frzs := fun c ob xs q => b.frzs c ob xs (a.frzs c ob xs q)
  tbls := fun c ps q => by
    obtain ⟨m1, e1⟩ := a.tbls c ps q
    obtain ⟨m2, e2⟩ := b.tbls c _ e1
    exact ⟨m1 ++ m2, by rw [e2, Array.append_assoc]⟩
theorem Un.kept (k : ∀ b u, h.get? b = some u → h'.get? b = some u) : Un fs ex H H h h' :=
  ⟨fun b ob q _ _ _ => k b ob q, fun b ob q _ _ _ => ⟨ob.slots, k b ob q⟩, fun _ _ _ n _ => n, fun b ob q _ => ⟨ob, k b ob q⟩, fun _ _ q => q, fun _ _ _ q => q, fun _ ps q => ⟨#[], by rw [q]; simp⟩⟩
theorem Un.refl : Un fs ex H H h h := Un.kept fun _ _ q => q
theorem Un.laid (k : ∀ b u, h.get? b = some u → h'.get? b = some u) (hp : h.objs.size ≤ a) (hn : H a = none) : Un fs ex H (upd H a o) h h' where
  keep := fun b u q _ _ _ => k b u q
  slot := fun b u q _ _ _ => ⟨u.slots, k b u q⟩
  free := fun b u q n _ => by rw [upd_ne (Nat.ne_of_lt (Nat.lt_of_lt_of_le (Heap.lt_size q) hp))]; exact n
  there := fun b u q _ => ⟨u, k b u q⟩
  tups := fun b xs q => by rw [upd_ne (ne_of_none q hn)]; exact q
  frzs := fun b u xs q => by rw [upd_ne (ne_of_none q hn)]; exact q
  tbls := fun b ps q => ⟨#[], by rw [upd_ne (ne_of_none q hn), q]; simp⟩
theorem Un.write (mu : Mut (H x)) (he : e = x ∨ H e = some (.own x)) (k : ∀ b u, b ≠ e → h.get? b = some u → h'.get? b = some u) (heo : ∃ u, h'.get? e = some u) : Un fs ex H (upd H x o) h h' := by
  have hx : ∀ b, H b = none → b ≠ x := fun b n z => by subst z; rw [n] at mu; exact mu
  have hb : ∀ b, H b = none → b ≠ e := fun b n z => by
    subst z
    rcases he with r | r
    · exact hx b n r
    · rw [n] at r; cases r
  have hm : ∀ b u, H b = some u → ¬ Mut (some u) → b ≠ x := fun b u q nm z => by subst z; rw [q] at mu; exact nm mu
  refine ⟨fun b u q n _ _ => k b u (hb b n) q, fun b u q n _ _ => ⟨u.slots, k b u (hb b n) q⟩, fun b u q n _ => by rw [upd_ne (hx b n)]; exact n, fun b u q _ => ?_,
    fun b xs q => by rw [upd_ne (hm b _ q fun z => z)]; exact q, fun b u xs q => by rw [upd_ne (hm b _ q fun z => z)]; exact q, fun b ps q => ⟨#[], by rw [upd_ne (hm b _ q fun z => z), q]; simp⟩⟩
  by_cases hbe : b = e
  · subst hbe; exact heo
  · exact ⟨u, k b u hbe q⟩
theorem Un.mono (u : Un fs ex H H1 h h1) (hs : ∀ b ∈ fs, b ∈ fs') (hx : ∀ b ∈ ex, b ∈ ex') : Un fs' ex' H H1 h h1 :=
  ⟨fun b ob q n hb he => u.keep b ob q n (fun z => hb (hs b z)) fun z => he (hx b z), fun _ _ q n _ he => u.any q n fun z => he (hx _ z), fun b ob q n he => u.free b ob q n fun z => he (hx b z), fun b ob q he => u.there b ob q fun z => he (hx b z), u.tups, u.frzs, u.tbls⟩
end

/-! ### the heap without what is tracked -/
def trk (h : Heap) (H : Hp) : List Addr := (List.range h.objs.size).filter fun a => (H a).isSome
def hidT (h : Heap) (H : Hp) : Heap := PySem.W.hideAll h (trk h H)
theorem hidT_size (h : Heap) (H : Hp) : (hidT h H).objs.size = h.objs.size := PySem.W.hideAll_size _ _
theorem hidT_get {h : Heap} {H : Hp} {b : Addr} {o : Obj} (e : h.get? b = some o) (n : H b = none) : (hidT h H).get? b = some o :=
  PySem.W.hideAll_get _ e fun hm => by
    have q : (H b).isSome = true := (List.mem_filter.mp hm).2
    rw [n] at q; simp at q
theorem of_hidT {h : Heap} {H : Hp} {b : Addr} {o : Obj} (e : (hidT h H).get? b = some o) : h.get? b = some o ∧ H b = none := by
  have e' : h.get? b = some o := PySem.W.of_hideAll (trk h H) e
  refine ⟨e', ?_⟩
  cases q : H b with
  | none => rfl
  | some x =>
    have hm : b ∈ trk h H := List.mem_filter.mpr ⟨List.mem_range.mpr (Heap.lt_size e'), by simp [q]⟩
    have z : (hidT h H).get? b = none := PySem.W.hideAll_none (trk h H) hm
    rw [z] at e; cases e

/-! ### OpenK's ledger, filled with every new object but one -/
def allNews (g h : Heap) (L : Addr) : List (Addr × Obj) := (List.range h.objs.size).filterMap fun a => if a = L ∨ (g.get? a).isSome = true then none else (h.get? a).map fun o => (a, o)
theorem mem_allNews {g h : Heap} {L a : Addr} {o : Obj} (h1 : a ≠ L) (h2 : g.get? a = none) (h3 : h.get? a = some o) : (a, o) ∈ allNews g h L :=
  List.mem_filterMap.mpr ⟨a, List.mem_range.mpr (Heap.lt_size h3), by simp [h1, h2, h3]⟩
theorem of_mem_allNews {g h : Heap} {L : Addr} {p : Addr × Obj} (hp : p ∈ allNews g h L) : p.1 ≠ L ∧ g.get? p.1 = none ∧ h.get? p.1 = some p.2 := by
  obtain ⟨b, _, e⟩ := List.mem_filterMap.mp hp
  split at e
  · cases e
  · rename_i hn
    cases q : h.get? b with
    | none => rw [q] at e; simp at e
    | some u =>
      rw [q] at e
      simp only [Option.map_some, Option.some.injEq] at e
      subst e
      refine ⟨fun z => hn (.inl z), ?_, q⟩
      show g.get? b = none
      cases r : g.get? b with
      | none => rfl
      | some v => exact (hn (.inr (by simp [r]))).elim
def rest (g h : Heap) (L d : Addr) : List (Addr × Obj) := (allNews g h L).filter fun p => decide (p.1 ≠ d)
theorem rest_ne {g h : Heap} {L d : Addr} : ∀ p ∈ rest g h L d, p.1 ≠ d := fun p hp => of_decide_eq_true (List.mem_filter.mp hp).2
theorem mem_rest {g h : Heap} {L d a : Addr} {o : Obj} (h1 : a ≠ L) (h2 : g.get? a = none) (h3 : h.get? a = some o) (h4 : a ≠ d) : (a, o) ∈ rest g h L d :=
  List.mem_filter.mpr ⟨mem_allNews h1 h2 h3, decide_eq_true h4⟩
theorem news_all {g h : Heap} {L : Addr} : News g L h (allNews g h L) := fun p hp => let ⟨a, b, c⟩ := of_mem_allNews hp; ⟨c, a, b⟩
/-- behind a rule that changed d alone: all else but the frame is kept -/
theorem kept_of_news {g h h' : Heap} {L d : Addr} {m : Str → Option Value} (k : ∀ b o, g.get? b = some o → h.get? b = some o) (F : Fr g L h' m) (N : News g L h' (rest g h L d)) :
    ∀ b o, b ≠ L → b ≠ d → h.get? b = some o → h'.get? b = some o := fun b o h1 h2 e => by
  cases q : g.get? b with
  | some u =>
    have := k b u q
    rw [e] at this; cases this
    exact F.keep b _ q
  | none => exact (N (b, o) (mem_rest h1 q e h2)).1
end L2

namespace L2
open PySem PySem.Spec PyProof.Rows

/-- the module's facts, over the base: the heap at the law's entry without what is tracked there -/
structure Mod (K : PySem.W.Frag) (mg : Str → Option Value) (base : Heap) : Prop where
  kin : K.In base
  glob : base.Ns mainGlobals mg
  blt : ∃ mb, base.Ns builtinsNs mb ∧ ∀ x : Str, x ≠ "__name__" → mb x = bootBuiltins x
  nolimit : base.NoLimit

/-- the context: a def's body (or a comprehension's block) running. base: fixed through the whole law; s₀, H₀: the entry; outer: the frames whose slots others may change (a def's callers); stack: all frames that run;
   ex: iterators that were made ahead of the entry and are walked here (a comprehension's); fn: the names whose cells were made at the entry (a def: all; a comprehension's block: its own); calm: not within an except suite; pn: pins that every state bears; xe: what is wanted of an exception that leaves the code -/
structure Cx where
  prog : Program
  w : World
  K : PySem.W.Frag
  mg : Str → Option Value
  base : Heap
  A : Around
  N : List Str
  s_0 : Shared
  H_0 : Hp
  env : Env
  outer : List Env
  stack : List Env
  ex : List Addr
  fn : Str → Bool
  calm : Bool
  pn : List (Addr × Obj)
  xe : Value → Shared → Prop
/-- the callers' frames -/
def frs (l : List Env) : List Addr := l.filterMap (·.frame)
abbrev Cx.fs (X : Cx) : List Addr := frs X.outer

def Vis (sc : Scope) (x : Str) : Prop := sc.names.lookup x = some .local ∨ sc.names.lookup x = some .cell ∨ sc.names.lookup x = some .free
def Loc (sc : Scope) (x : Str) : Prop := sc.names.lookup x = some .local ∨ sc.names.lookup x = some .cell
def Look (env : Env) (h : Heap) (m : Str → Option Value) (x : Str) (u : Value) : Prop :=
  (env.kindOf x = some .local ∧ m x = some u) ∨ ((env.kindOf x = some .cell ∨ env.kindOf x = some .free) ∧ ∃ c, env.cells.lookup x = some c ∧ h.IsCell c (some u))

structure Cx.Ok (X : Cx) : Prop where
  mod : Mod X.K X.mg X.base
  kind : X.env.scope.kind = .function
  glob : X.env.globals = mainGlobals
  blt : X.env.builtins = builtinsNs
  above : X.s_0.heap.objs.size ≤ X.env.locals
  inj : ∀ x y c, X.env.cells.lookup x = some c → X.env.cells.lookup y = some c → x = y
  has : ∀ x, (X.env.kindOf x = some .cell ∨ X.env.kindOf x = some .free) → ∃ c, X.env.cells.lookup x = some c
  cab : ∀ x c, X.fn x = true → X.env.cells.lookup x = some c → X.s_0.heap.objs.size ≤ c
  hd : X.calm = true → X.A.handled = none
  frames : X.A.frames = some X.stack
  stk : X.stack = X.outer ∨ (X.stack = X.env :: X.outer ∧ X.env.frame = some X.env.locals)
  exf : ∀ b ∈ X.ex, b ≠ X.env.locals ∧ ∀ x c, X.env.cells.lookup x = some c → c ≠ b
  bs : ∀ b o, X.base.get? b = some o → X.s_0.heap.get? b = some o ∧ X.H_0 b = none
  bsz : X.base.objs.size ≤ X.s_0.heap.objs.size
  noex : ∀ b o, X.base.get? b = some o → b ∉ X.ex
  exfs : ∀ b ∈ X.ex, b ∉ X.fs
  funs : X.s_0.heap.FunFrames X.base X.outer
  frf : ∀ b ∈ X.fs, X.H_0 b = none

/-- the generators that were there are as they were -/
structure GP (a b : Array GenState) : Prop where
  bare : AllBare b
  size : a.size ≤ b.size
  same : ∀ k, k < a.size → b[k]? = a[k]?
theorem GP.refl {a : Array GenState} (h : AllBare a) : GP a a := ⟨h, Nat.le_refl _, fun _ _ => rfl⟩
theorem GP.trans {a b c : Array GenState} (x : GP a b) (y : GP b c) : GP a c := ⟨y.bare, Nat.le_trans x.size y.size, fun k h => (y.same k (Nat.lt_of_lt_of_le h x.size)).trans (x.same k h)⟩
structure Inv (X : Cx) (pins : List (Addr × Obj)) (σ : List (Option V)) (H : Hp) (s : Shared) : Prop where
  ok : X.Ok
  os : s.os = X.s_0.os
  bare : GP X.s_0.gens s.gens
  base : Un X.fs X.ex X.H_0 H X.s_0.heap s.heap
  loc : ∃ m, s.heap.Ns X.env.locals m ∧ ∀ (i : Nat) (x : Str) (v : V), X.N[i]? = some x → σ[i]? = some (some v) → Vis X.env.scope x → ∃ u, RelV v u ∧ Look X.env s.heap m x u
  cell : ∀ x c, X.env.cells.lookup x = some c → ∃ v, s.heap.IsCell c v
  free : H X.env.locals = none
  freeC : ∀ x c, X.env.cells.lookup x = some c → H c = none
  pin : ∀ p ∈ X.pn ++ pins, s.heap.get? p.1 = some p.2 ∧ H p.1 = none ∧ p.1 ≠ X.env.locals ∧ p.1 ∉ X.fs ∧ ∀ v, p.2.data ≠ .cell v
  hok : HOk X.prog X.w H s.heap
  len : σ.length = X.N.length

section
variable {X : Cx} {pins : List (Addr × Obj)} {σ : List (Option V)} {H H' : Hp} {s : Shared} {h' : Heap}

theorem Cx.Ok.nofr (ok : X.Ok) {b : Addr} {o : Obj} (e : X.base.get? b = some o) : b ∉ X.fs := fun hb => by
  have := (ok.funs.mem hb).1
  rw [e] at this; cases this
theorem Inv.bs (I : Inv X pins σ H s) : ∀ b o, X.base.get? b = some o → s.heap.get? b = some o ∧ H b = none := fun b o e =>
  ⟨I.base.keep b o (I.ok.bs b o e).1 (I.ok.bs b o e).2 (I.ok.nofr e) (I.ok.noex b o e), I.base.free b o (I.ok.bs b o e).1 (I.ok.bs b o e).2 (I.ok.noex b o e)⟩
theorem Inv.bk (I : Inv X pins σ H s) : ∀ b o, X.base.get? b = some o → s.heap.get? b = some o := fun b o e => (I.bs b o e).1
theorem Inv.mod (I : Inv X pins σ H s) : Mod X.K X.mg X.base := I.ok.mod
theorem Inv.kIn (I : Inv X pins σ H s) : X.K.In s.heap := I.ok.mod.kin.keeps I.bk
theorem Inv.nolimit (I : Inv X pins σ H s) : s.heap.NoLimit := I.ok.mod.nolimit.keeps I.bk
theorem Inv.lt (I : Inv X pins σ H s) : X.env.locals < s.heap.objs.size := let ⟨_, hn, _⟩ := I.loc; hn.lt
theorem Inv.sz (I : Inv X pins σ H s) : X.s_0.heap.objs.size ≤ s.heap.objs.size := Nat.le_trans I.ok.above (Nat.le_of_lt I.lt)
theorem Inv.nofs (I : Inv X pins σ H s) {a : Addr} (h : s.heap.objs.size ≤ a) : a ∉ X.fs := fun hb => by
  obtain ⟨_, o, ho, _⟩ := I.ok.funs.mem hb
  exact absurd (Nat.lt_of_lt_of_le (Heap.lt_size ho) (Nat.le_trans I.sz h)) (Nat.lt_irrefl _)
theorem Inv.cne (I : Inv X pins σ H s) : ∀ x c, X.env.cells.lookup x = some c → c ≠ X.env.locals := fun x c e z => by
  obtain ⟨v, o, ho, hd⟩ := I.cell x c e
  obtain ⟨m, ⟨o', es, ep, ho', hd', _⟩, _⟩ := I.loc
  rw [z, ho'] at ho; cases ho; rw [hd'] at hd; cases hd
theorem Inv.funs (I : Inv X pins σ H s) : s.heap.FunFrames X.base X.outer := by
  have all : ∀ (l : List Env), (∀ b ∈ frs l, b ∈ X.fs) → X.s_0.heap.FunFrames X.base l → s.heap.FunFrames X.base l := by
    intro l
    induction l with
    | nil => intro _ _; trivial
    | cons env r ih =>
      intro hs hl
      obtain ⟨hk, ⟨L, o, hf, hn, ho, hd⟩, hr⟩ := hl
      have hL : L ∈ X.fs := hs L (by unfold frs; rw [List.filterMap_cons, hf]; exact List.mem_cons_self)
      obtain ⟨sl, e⟩ := I.base.slot L o ho (I.ok.frf L hL) hL fun z => I.ok.exfs L z hL
      exact ⟨hk, ⟨L, _, hf, hn, e, hd⟩, ih (fun b hb => hs b (by unfold frs; rw [List.filterMap_cons, hf]; exact List.mem_cons_of_mem _ hb)) hr⟩
  exact all X.outer (fun _ hb => hb) I.ok.funs

/-- the frames that run, for a call -/
theorem Inv.stack (I : Inv X pins σ H s) : s.heap.FunFrames X.base X.stack := by
  rcases I.ok.stk with e | ⟨e, hf⟩
  · rw [e]; exact I.funs
  · rw [e]
    obtain ⟨m, hn, _⟩ := I.loc
    refine .cons (by rw [I.ok.kind]; decide) hf hn ?_ I.funs
    exact Heap.get?_none_of_le (Nat.le_trans I.ok.bsz I.ok.above)
theorem Inv.stkSub (I : Inv X pins σ H s) : ∀ b ∈ frs X.stack, b ∈ X.env.locals :: X.fs := fun b hb => by
  rcases I.ok.stk with e | ⟨e, hf⟩
  · rw [e] at hb; exact List.mem_cons_of_mem _ hb
  · rw [e] at hb
    unfold frs at hb
    rw [List.filterMap_cons, hf] at hb
    exact hb
theorem Inv.stkFree (I : Inv X pins σ H s) : ∀ b ∈ frs X.stack, H b = none := fun b hb => by
  rcases List.mem_cons.mp (I.stkSub b hb) with e | hb
  · rw [e]; exact I.free
  · obtain ⟨_, o, ho, _⟩ := I.ok.funs.mem hb
    exact I.base.free b o ho (I.ok.frf b hb) fun z => I.ok.exfs b z hb

/-- THE STEP: the untracked objects but the frame and the records at ch are kept (the callers' frames up to slots), the frame's map is kept, the new abstract heap is held -/
theorem Inv.step {g' : Array GenState} {t' : Nat} {d' : Drawn} {ch : List Addr} (I : Inv X pins σ H s)
    (hch : ∀ b ∈ ch, (b ∈ X.ex ∨ X.s_0.heap.objs.size ≤ b) ∧ b ≠ X.env.locals ∧ (∀ x c, X.env.cells.lookup x = some c → c ≠ b) ∧ ∀ p ∈ X.pn ++ pins, p.1 ≠ b)
    (keep : ∀ b o, b ≠ X.env.locals → b ∉ X.fs → b ∉ ch → s.heap.get? b = some o → H b = none → h'.get? b = some o)
    (slot : ∀ b o, b ≠ X.env.locals → b ∈ X.fs → b ∉ ch → s.heap.get? b = some o → H b = none → ∃ sl, h'.get? b = some { o with slots := sl }) (free : ∀ b o, b ∉ ch → s.heap.get? b = some o → H b = none → H' b = none)
    (there : ∀ b o, b ∉ ch → s.heap.get? b = some o → ∃ o', h'.get? b = some o')
    (tups : ∀ b xs, H b = some (.tup xs) → H' b = some (.tup xs)) (frzs : ∀ b o u, H b = some (.frz o u) → H' b = some (.frz o u)) (tbls : ∀ b ps, H b = some (.tbl ps) → ∃ more, H' b = some (.tbl (ps ++ more)))
    (ns : ∀ m, s.heap.Ns X.env.locals m → h'.Ns X.env.locals m) (hok : HOk X.prog X.w H' h') (hg : GP X.s_0.gens g') :
    Inv X pins σ H' { s with heap := h', gens := g', drawn := d', toks := t' } := by
  have neL : ∀ b o, X.s_0.heap.get? b = some o → b ≠ X.env.locals := fun b o e => Nat.ne_of_lt (Nat.lt_of_lt_of_le (Heap.lt_size e) I.ok.above)
  have neC : ∀ b o, X.s_0.heap.get? b = some o → b ∉ X.ex → b ∉ ch := fun b o e hx hb => by
    rcases (hch b hb).1 with z | z
    · exact hx z
    · exact absurd (Nat.lt_of_lt_of_le (Heap.lt_size e) z) (Nat.lt_irrefl _)
  have cellK : ∀ x c, X.env.cells.lookup x = some c → ∀ v, s.heap.IsCell c v → h'.IsCell c v := fun x c e v ⟨o, ho, hd⟩ => by
    have nch : c ∉ ch := fun z => (hch c z).2.2.1 x c e rfl
    by_cases hc : c ∈ X.fs
    · obtain ⟨sl, q⟩ := slot c o (I.cne x c e) hc nch ho (I.freeC x c e)
      exact ⟨_, q, hd⟩
    · exact ⟨o, keep c o (I.cne x c e) hc nch ho (I.freeC x c e), hd⟩
  refine ⟨I.ok, I.os, hg, ⟨fun b o e n hb hx => ?_, fun b o e n hb hx => ?_, fun b o e n hx => ?_, fun b o e hx => ?_, fun b xs e => tups b xs (I.base.tups b xs e), fun b o xs e => frzs b o xs (I.base.frzs b o xs e), fun b ps e => ?_⟩, ?_, fun x c e => ?_, ?_, fun x c e => ?_, fun p hp => ?_, hok, I.len⟩
  · exact keep b o (neL b o e) hb (neC b o e hx) (I.base.keep b o e n hb hx) (I.base.free b o e n hx)
  · obtain ⟨sl, e1⟩ := I.base.slot b o e n hb hx
    obtain ⟨sl', e2⟩ := slot b _ (neL b o e) hb (neC b o e hx) e1 (I.base.free b o e n hx)
    exact ⟨sl', e2⟩
  · obtain ⟨o', e1⟩ := I.base.there b o e hx
    exact free b o' (neC b o e hx) e1 (I.base.free b o e n hx)
  · obtain ⟨o', e1⟩ := I.base.there b o e hx
    exact there b o' (neC b o e hx) e1
  · obtain ⟨m1, e1⟩ := I.base.tbls b ps e
    obtain ⟨m2, e2⟩ := tbls b _ e1
    exact ⟨m1 ++ m2, by rw [e2, Array.append_assoc]⟩
  · obtain ⟨m, hn, hl⟩ := I.loc
    refine ⟨m, ns m hn, fun i x v e1 e2 e3 => ?_⟩
    obtain ⟨u, r, l⟩ := hl i x v e1 e2 e3
    refine ⟨u, r, ?_⟩
    rcases l with l | ⟨k, c, e, z⟩
    · exact .inl l
    · exact .inr ⟨k, c, e, cellK x c e _ z⟩
  · obtain ⟨v, z⟩ := I.cell x c e
    exact ⟨v, cellK x c e v z⟩
  · obtain ⟨m, ⟨o, _, _, ho, _⟩, _⟩ := I.loc
    exact free _ o (fun z => (hch _ z).2.1 rfl) ho I.free
  · obtain ⟨v, o, ho, hd⟩ := I.cell x c e
    exact free c o (fun z => (hch c z).2.2.1 x c e rfl) ho (I.freeC x c e)
  · obtain ⟨e, n, ne, nf, d⟩ := I.pin p hp
    have nch : p.1 ∉ ch := fun z => (hch p.1 z).2.2.2 p hp rfl
    exact ⟨keep p.1 p.2 ne nf nch e n, free p.1 p.2 nch e n, ne, nf, d⟩
/-- .. where the frame's own object is kept too -/
theorem Inv.un {t' : Nat} (I : Inv X pins σ H s) (u : Un X.fs [] H H' s.heap h') (hok : HOk X.prog X.w H' h') : Inv X pins σ H' { s with heap := h', toks := t' } := by
  obtain ⟨m, ⟨o, es, ep, ho, r⟩, _⟩ := id I.loc
  obtain ⟨sl, hL⟩ := u.any ho I.free (by simp)
  exact I.step (g' := s.gens) (d' := s.drawn) (ch := []) (fun _ z => nomatch z) (fun b o _ hb _ e n => u.keep b o e n hb (by simp)) (fun b o _ hb _ e n => u.slot b o e n hb (by simp)) (fun b o _ e n => u.free b o e n (by simp)) (fun b o _ e => u.there b o e (by simp)) u.tups u.frzs u.tbls (fun m' hm => by
    obtain ⟨o', es', ep', ho', r'⟩ := hm
    rw [ho] at ho'; cases ho'
    exact ⟨_, es', ep', hL, r'⟩) hok I.bare
/-- behind a call (or a comprehension's block): the slots of this frame may have changed too, the records at ch may have turned -/
theorem Inv.call {g' : Array GenState} {t' : Nat} {d' : Drawn} {ch : List Addr} (I : Inv X pins σ H s) (u : Un (frs X.stack) ch H H' s.heap h') (hok : HOk X.prog X.w H' h') (hg : GP s.gens g')
    (hch : ∀ b ∈ ch, (b ∈ X.ex ∨ X.s_0.heap.objs.size ≤ b) ∧ b ≠ X.env.locals ∧ (∀ x c, X.env.cells.lookup x = some c → c ≠ b) ∧ ∀ p ∈ X.pn ++ pins, p.1 ≠ b) :
    Inv X pins σ H' { s with heap := h', gens := g', drawn := d', toks := t' } := by
  obtain ⟨m, ⟨o, es, ep, ho, r⟩, _⟩ := id I.loc
  obtain ⟨sl, hL⟩ := u.any ho I.free fun z => (hch _ z).2.1 rfl
  exact I.step (ch := ch) hch (fun b o hL hb hc e n => u.keep b o e n (fun z => (List.mem_cons.mp (I.stkSub b z)).elim hL hb) hc) (fun b o _ _ hc e n => u.any e n hc) (fun b o hc e n => u.free b o e n hc) (fun b o hc e => u.there b o e hc) u.tups u.frzs u.tbls (fun m' hm => by
    obtain ⟨o', es', ep', ho', r'⟩ := hm
    rw [ho] at ho'; cases ho'
    exact ⟨_, es', ep', hL, r'⟩) hok (I.bare.trans hg)
/-- an untracked record of ours (an iterator) has turned -/
theorem Inv.turned {t' : Nat} {it : Addr} (I : Inv X pins σ H s) (k : ∀ b o, b ≠ it → s.heap.get? b = some o → h'.get? b = some o) (hn : H it = none) (hL : it ≠ X.env.locals)
    (h1 : it ∈ X.ex ∨ X.s_0.heap.objs.size ≤ it) (h2 : ∀ x c, X.env.cells.lookup x = some c → c ≠ it) (h3 : ∀ p ∈ X.pn ++ pins, p.1 ≠ it) : Inv X pins σ H { s with heap := h', toks := t' } := by
  have nit : ∀ b u, H b = some u → b ≠ it := fun b u e z => by rw [z, hn] at e; cases e
  refine I.step (g' := s.gens) (d' := s.drawn) (ch := [it]) (fun b hb => ?_) (fun b o _ _ hc e _ => k b o (fun z => hc (by simp [z])) e) (fun b o _ _ hc e _ => ⟨o.slots, k b o (fun z => hc (by simp [z])) e⟩) (fun _ _ _ _ n => n)
    (fun b o hc e => ⟨o, k b o (fun z => hc (by simp [z])) e⟩) (fun _ _ e => e) (fun _ _ _ e => e) (fun b ps e => ⟨#[], by rw [e]; simp⟩) (fun m hm => ?_) (fun b u e => ?_) I.bare
  · have e : b = it := by simpa using hb
    subst e
    exact ⟨h1, hL, h2, h3⟩
  · obtain ⟨o, es, ep, ho, r⟩ := hm
    exact ⟨o, es, ep, k _ o (Ne.symm hL) ho, r⟩
  · refine (I.hok b u e).stay (fun c v hc q => k c v ?_ q) (fun _ q => q) fun _ _ q => q
    rcases hc with z | z
    · rw [z]; exact nit b u e
    · exact nit c _ z
theorem Inv.tok (I : Inv X pins σ H s) (t : Nat) : Inv X pins σ H { s with toks := t } := I.un (h' := s.heap) (t' := t) Un.refl I.hok
/-- all objects kept -/
theorem Inv.kept {t' : Nat} (I : Inv X pins σ H s) (k : ∀ b u, s.heap.get? b = some u → h'.get? b = some u) : Inv X pins σ H { s with heap := h', toks := t' } := I.un (Un.kept k) (I.hok.kept k)
/-- a new object laid and tracked -/
theorem Inv.laid {a : Addr} {o : HO} {t' : Nat} (I : Inv X pins σ H s) (k : ∀ b u, s.heap.get? b = some u → h'.get? b = some u) (hp : s.heap.objs.size ≤ a) (new : ObjOk X.prog X.w (upd H a o) h' a o) :
    Inv X pins σ (upd H a o) { s with heap := h', toks := t' } := I.un (Un.laid k hp (I.hok.fresh hp)) (I.hok.laid k hp new)
/-- an object written -/
theorem Inv.write {x e : Addr} {o : HO} {t' : Nat} (I : Inv X pins σ H s) (mu : Mut (H x)) (he : e = x ∨ H e = some (.own x)) (k : ∀ b u, b ≠ e → s.heap.get? b = some u → h'.get? b = some u) (heo : ∃ u, h'.get? e = some u)
    (new : ObjOk X.prog X.w (upd H x o) h' x o) : Inv X pins σ (upd H x o) { s with heap := h', toks := t' } := I.un (Un.write mu he k heo) (I.hok.write mu he k heo new)
/-- forgetting slots, pins -/
theorem Inv.weak {σ' : List (Option V)} (I : Inv X pins σ H s) (hl : σ'.length = σ.length) (w : ∀ (i : Nat) v, σ'[i]? = some (some v) → σ[i]? = some (some v)) : Inv X pins σ' H s :=
  ⟨I.ok, I.os, I.bare, I.base, let ⟨m, hn, hl'⟩ := I.loc; ⟨m, hn, fun i x v e1 e2 e3 => hl' i x v e1 (w i v e2) e3⟩, I.cell, I.free, I.freeC, I.pin, I.hok, hl.trans I.len⟩
theorem Inv.pins_of {pins' : List (Addr × Obj)} (I : Inv X pins σ H s) (h : ∀ p ∈ pins', s.heap.get? p.1 = some p.2 ∧ H p.1 = none ∧ p.1 ≠ X.env.locals ∧ p.1 ∉ X.fs ∧ ∀ v, p.2.data ≠ .cell v) : Inv X pins' σ H s :=
  ⟨I.ok, I.os, I.bare, I.base, I.loc, I.cell, I.free, I.freeC, fun p hp => (List.mem_append.mp hp).elim (fun z => I.pin p (List.mem_append_left _ z)) (h p), I.hok, I.len⟩

theorem nodup_ix {N : List Str} (hN : N.Nodup) {i j : Nat} {x : Str} (a : N[i]? = some x) (b : N[j]? = some x) : i = j := by
  obtain ⟨h1, e1⟩ := List.getElem?_eq_some_iff.mp a
  obtain ⟨h2, e2⟩ := List.getElem?_eq_some_iff.mp b
  exact (List.getElem_inj hN).mp (e1.trans e2.symm)

/-- a name is stored; what changed -/
theorem store_ok2 {M : Model} {A : Around} {E : Value → Shared → Prop} {i : Nat} {x : Str} {v : V} {u : Value} {Q : Unit → Shared → Prop} (I : Inv X pins σ H s) (hN : X.N.Nodup) (hi : X.N[i]? = some x) (hx : Loc X.env.scope x) (r : RelV v u)
    (h : ∀ s', Inv X pins (σ.set i (some v)) H s' → (∃ a, Heap.SameBut a s.heap s'.heap ∧ (a = X.env.locals ∨ X.env.cells.lookup x = some a)) → Q () s') (hf : X.fn x = true ∨ X.env.scope.names.lookup x = some .local := by first | exact .inl rfl | exact .inr rfl | assumption) : wpAny M A (storeName X.env x u) Q E s := by
  obtain ⟨m, hn, hl⟩ := id I.loc
  have hcls : (X.env.scope.kind == .class || (X.env.scope.kind == .module && X.env.locals != X.env.globals)) = false := by rw [I.ok.kind]; rfl
  have hiσ : i < σ.length := by rw [I.len]; exact (List.getElem?_eq_some_iff.mp hi).1
  have cne := I.cne
  have tracked : ∀ {a : Addr} {h' : Heap}, (∃ o, s.heap.get? a = some o ∧ H a = none) → Heap.SameBut a s.heap h' → HOk X.prog X.w H h' := fun {a h'} ha hs b ob e => by
    obtain ⟨_, _, hfree⟩ := ha
    refine (I.hok b ob e).stay (fun c w' hc q => (hs.2 c ?_).trans q) (fun _ q => q) fun _ _ q => q
    rintro rfl
    rcases hc with rfl | hc
    · rw [hfree] at e; cases e
    · rw [hfree] at hc; cases hc
  rcases hx with hk | hk
  · refine wpAny_storeName_local hk hn (fun h' hn' hs => ?_) hcls
    obtain ⟨oL, _, _, hoL, _⟩ := id hn
    refine h _ ⟨I.ok, I.os, I.bare, ⟨fun b o e n hb hx => ?_, fun b o e n hb hx => ?_, I.base.free, fun b o e hx => ?_, I.base.tups, I.base.frzs, I.base.tbls⟩, ⟨_, hn', fun j y v' e1 e2 e3 => ?_⟩, fun y c e => ?_, I.free, I.freeC, fun p hp => ?_, tracked ⟨oL, hoL, I.free⟩ hs, by simpa using I.len⟩ ⟨_, hs, .inl rfl⟩
    · exact (hs.2 b (Nat.ne_of_lt (Nat.lt_of_lt_of_le (Heap.lt_size e) I.ok.above))).trans (I.base.keep b o e n hb hx)
    · obtain ⟨sl, e1⟩ := I.base.slot b o e n hb hx
      exact ⟨sl, (hs.2 b (Nat.ne_of_lt (Nat.lt_of_lt_of_le (Heap.lt_size e) I.ok.above))).trans e1⟩
    · obtain ⟨o', e1⟩ := I.base.there b o e hx
      exact ⟨o', (hs.2 b (Nat.ne_of_lt (Nat.lt_of_lt_of_le (Heap.lt_size e) I.ok.above))).trans e1⟩
    · by_cases hj : j = i
      · subst hj
        rw [hi] at e1; cases e1
        rw [List.getElem?_set_self hiσ] at e2
        cases e2
        exact ⟨u, r, .inl ⟨hk, by simp⟩⟩
      · rw [List.getElem?_set_ne (Ne.symm hj)] at e2
        obtain ⟨u', r', q⟩ := hl j y v' e1 e2 e3
        refine ⟨u', r', ?_⟩
        rcases q with ⟨k, e⟩ | ⟨k, c, e, z⟩
        · refine .inl ⟨k, ?_⟩
          have : y ≠ x := fun e => hj (nodup_ix hN e1 (e ▸ hi))
          simp [this, e]
        · exact .inr ⟨k, c, e, z.sameBut hs (cne y c e)⟩
    · obtain ⟨w', z⟩ := I.cell y c e
      exact ⟨w', z.sameBut hs (cne y c e)⟩
    · obtain ⟨e, n, ne, nf, d⟩ := I.pin p hp
      exact ⟨(hs.2 p.1 ne).trans e, n, ne, nf, d⟩
  · have hfn : X.fn x = true := by
      rcases hf with z | z
      · exact z
      · rw [z] at hk; cases hk
    obtain ⟨c, hc⟩ := I.ok.has x (.inl hk)
    obtain ⟨w', z⟩ := I.cell x c hc
    refine wpAny_storeName_cell I.ok.kind hk hc z (fun h' hc' hs => ?_)
    obtain ⟨oc, hoc, hocd⟩ := id z
    refine h { s with heap := h' } ⟨I.ok, I.os, I.bare, ⟨fun b o e n hb hx => ?_, fun b o e n hb hx => ?_, I.base.free, fun b o e hx => ?_, I.base.tups, I.base.frzs, I.base.tbls⟩, ⟨m, hn.sameBut hs (Ne.symm (cne x c hc)), fun j y v' e1 e2 e3 => ?_⟩, fun y c' e => ?_, I.free, I.freeC, fun p hp => ?_, tracked ⟨oc, hoc, I.freeC x c hc⟩ hs, by simpa using I.len⟩ ⟨c, hs, .inr hc⟩
    · exact (hs.2 b (Nat.ne_of_lt (Nat.lt_of_lt_of_le (Heap.lt_size e) (I.ok.cab x c hfn hc)))).trans (I.base.keep b o e n hb hx)
    · obtain ⟨sl, e1⟩ := I.base.slot b o e n hb hx
      exact ⟨sl, (hs.2 b (Nat.ne_of_lt (Nat.lt_of_lt_of_le (Heap.lt_size e) (I.ok.cab x c hfn hc)))).trans e1⟩
    · obtain ⟨o', e1⟩ := I.base.there b o e hx
      exact ⟨o', (hs.2 b (Nat.ne_of_lt (Nat.lt_of_lt_of_le (Heap.lt_size e) (I.ok.cab x c hfn hc)))).trans e1⟩
    · by_cases hj : j = i
      · subst hj
        rw [hi] at e1; cases e1
        rw [List.getElem?_set_self hiσ] at e2
        cases e2
        exact ⟨u, r, .inr ⟨.inl hk, c, hc, hc'⟩⟩
      · rw [List.getElem?_set_ne (Ne.symm hj)] at e2
        obtain ⟨u', r', q⟩ := hl j y v' e1 e2 e3
        refine ⟨u', r', ?_⟩
        rcases q with q | ⟨k, c', e, z'⟩
        · exact .inl q
        · refine .inr ⟨k, c', e, z'.sameBut hs ?_⟩
          rintro rfl
          exact hj (nodup_ix hN e1 (I.ok.inj _ _ _ e hc ▸ hi))
    · by_cases hcc : c' = c
      · subst hcc; exact ⟨_, hc'⟩
      · obtain ⟨w2, z2⟩ := I.cell y c' e
        exact ⟨w2, z2.sameBut hs hcc⟩
    · obtain ⟨e, n, ne, nf, d⟩ := I.pin p hp
      refine ⟨(hs.2 p.1 ?_).trans e, n, ne, nf, d⟩
      intro q
      rw [q, hoc] at e
      have q' : oc = p.2 := Option.some.inj e
      exact d w' (by rw [← q']; exact hocd)
theorem store_ok {M : Model} {A : Around} {E : Value → Shared → Prop} {i : Nat} {x : Str} {v : V} {u : Value} {Q : Unit → Shared → Prop} (I : Inv X pins σ H s) (hN : X.N.Nodup) (hi : X.N[i]? = some x) (hx : Loc X.env.scope x) (r : RelV v u)
    (h : ∀ s', Inv X pins (σ.set i (some v)) H s' → Q () s') (hf : X.fn x = true ∨ X.env.scope.names.lookup x = some .local := by first | exact .inl rfl | exact .inr rfl | assumption) : wpAny M A (storeName X.env x u) Q E s :=
  store_ok2 I hN hi hx r (fun s' I' _ => h s' I') hf
/-- behind a call or a block, the state as it is -/
theorem Inv.call' {s' : Shared} {ch : List Addr} (I : Inv X pins σ H s) (ho : s'.os = s.os) (u : Un (frs X.stack) ch H H' s.heap s'.heap) (hok : HOk X.prog X.w H' s'.heap) (hg : GP s.gens s'.gens)
    (hch : ∀ b ∈ ch, (b ∈ X.ex ∨ X.s_0.heap.objs.size ≤ b) ∧ b ≠ X.env.locals ∧ (∀ x c, X.env.cells.lookup x = some c → c ≠ b) ∧ ∀ p ∈ X.pn ++ pins, p.1 ≠ b) : Inv X pins σ H' s' := by
  obtain ⟨h', g', d', t', o'⟩ := s'
  have e : o' = s.os := ho
  subst e
  exact I.call (g' := g') (t' := t') (d' := d') u hok hg hch
end

/-! ### the judgements -/
/-- an exception: its class, its own dict's address (where it has one), the abstract heap behind it -/
abbrev XK := Value → Option Addr → Hp → Prop
abbrev St := List (Option V)
abbrev VK := V → Hp → Prop
/-- an expression's reading; a test's; an argument list's -/
abbrev TE := St → Hp → VK → Prop
abbrev TT := St → Hp → (Bool → Hp → Prop) → Prop
abbrev TA := St → Hp → (List V → Hp → Prop) → Prop
/-- what is wanted behind a statement -/
structure Ends where
  nx : St → Hp → Prop
  rt : VK
  bk : St → Hp → Prop := fun _ _ => False
  ct : St → Hp → Prop := fun _ _ => False
abbrev TS := Ends → St → Hp → Prop

def EP (X : Cx) (pins : List (Addr × Obj)) (σ : St) (Q : VK) (u : Value) (s' : Shared) : Prop := ∃ v H', Inv X pins σ H' s' ∧ RelV v u ∧ Q v H'
def TP (X : Cx) (pins : List (Addr × Obj)) (σ : St) (Q : Bool → Hp → Prop) (b : Bool) (s' : Shared) : Prop := ∃ H', Inv X pins σ H' s' ∧ Q b H'
def AP (X : Cx) (pins : List (Addr × Obj)) (σ : St) (Q : List V → Hp → Prop) (us : List Value) (s' : Shared) : Prop := ∃ vs H', Inv X pins σ H' s' ∧ Vals vs us ∧ Q vs H'
def SP (X : Cx) (pins : List (Addr × Obj)) (D : Ends) (f : Flow) (s' : Shared) : Prop :=
  match f with
  | .next => ∃ σ' H', Inv X pins σ' H' s' ∧ D.nx σ' H'
  | .brk => ∃ σ' H', Inv X pins σ' H' s' ∧ D.bk σ' H'
  | .cont => ∃ σ' H', Inv X pins σ' H' s' ∧ D.ct σ' H'
  | .ret u => ∃ v σ' H', Inv X pins σ' H' s' ∧ RelV v u ∧ D.rt v H'

def PE (X : Cx) (e : Expr) (t : TE) : Prop :=
  ∀ (pins : List (Addr × Obj)) (s : Shared) (σ : St) (H : Hp) (Q : VK), Inv X pins σ H s → t σ H Q → wpAny (model X.prog X.w) X.A (eval e X.env) (EP X pins σ Q) X.xe s
def PT (X : Cx) (e : Expr) (t : TT) : Prop :=
  ∀ (pins : List (Addr × Obj)) (s : Shared) (σ : St) (H : Hp) (Q : Bool → Hp → Prop), Inv X pins σ H s → t σ H Q → wpAny (model X.prog X.w) X.A (isTrue e X.env (eval e X.env)) (TP X pins σ Q) X.xe s
/-- a test whatever its 'whole' is (and, or) -/
def PW (X : Cx) (e : Expr) (t : TT) : Prop :=
  ∀ (whole : Sem Value) (pins : List (Addr × Obj)) (s : Shared) (σ : St) (H : Hp) (Q : Bool → Hp → Prop), Inv X pins σ H s → t σ H Q → wpAny (model X.prog X.w) X.A (isTrue e X.env whole) (TP X pins σ Q) X.xe s
theorem PW.pt {X : Cx} {e : Expr} {t : TT} (h : PW X e t) : PT X e t := h _
/-- an argument list (no star), from the left -/
def PA (X : Cx) (es : List Expr) (t : TA) : Prop :=
  ∀ (pos : Pos) (pins : List (Addr × Obj)) (s : Shared) (σ : St) (H : Hp) (Q : List V → Hp → Prop), Inv X pins σ H s → t σ H Q → wpAny (model X.prog X.w) X.A (spliced (backTo pos (starEach es X.env))) (AP X pins σ Q) X.xe s
def PS (X : Cx) (st : Stmt) (t : TS) : Prop :=
  ∀ (pins : List (Addr × Obj)) (s : Shared) (σ : St) (H : Hp) (D : Ends), Inv X pins σ H s → t D σ H → wpAny (model X.prog X.w) X.A (exec st X.env) (SP X pins D) X.xe s
def PSs (X : Cx) (st : List Stmt) (t : TS) : Prop :=
  ∀ (pins : List (Addr × Obj)) (s : Shared) (σ : St) (H : Hp) (D : Ends), Inv X pins σ H s → t D σ H → wpAny (model X.prog X.w) X.A (execs st X.env) (SP X pins D) X.xe s
/-- weaken the end -/
theorem thn {α : Type} {t : Sem α} {Q Q' : α → Shared → Prop} {M : Model} {A : Around} {E : Value → Shared → Prop} {s : Shared} (h : wpAny M A t Q E s) (hQ : ∀ a s, Q a s → Q' a s) : wpAny M A t Q' E s := wpAny_mono h hQ fun _ _ x => x
end L2

namespace L2
open PySem PySem.Spec PyProof.Rows
section
variable {X : Cx}

/-! ### names and constants -/
def tVar (i : Nat) : TE := fun σ H Q => ∃ v, σ[i]? = some (some v) ∧ Q v H
def tC (v : V) : TE := fun _ H Q => Q v H
theorem pe_var {i : Nat} {x : Str} {pos : Pos} (hN : X.N[i]? = some x) (hv : Vis X.env.scope x) (hd : (x == ("__debug__" : Str)) = false := by decide) (hcd : (x == ("__classdict__" : Str)) = false := by decide) : PE X (.Name x pos) (tVar i) := by
  intro pins s σ H Q I h
  obtain ⟨v, e, h⟩ := h
  obtain ⟨m, hn, hl⟩ := I.loc
  obtain ⟨u, r, l⟩ := hl i x v hN e hv
  have fin : EP X pins σ Q u s := ⟨v, H, I, r, h⟩
  rcases l with ⟨hk, hm⟩ | ⟨hk, c, hc, hcell⟩
  · exact wpAny_Name (wpAny_loadName_local I.ok.kind hk hn hm fin) hd
  · rcases hk with hk | hk
    · exact wpAny_Name (wpAny_loadName_cell I.ok.kind hk hc hcell fin) hd
    · exact wpAny_Name (wpAny_loadName_free I.ok.kind hk hc hcell fin hcd) hd
theorem pe_int {i j pos} : PE X (.Constant (.int i) j pos) (tC (.int i)) := fun _ _ _ H _ I h => wpAny_Constant_int ⟨.int i, H, I.tok _, ⟨_, rfl⟩, h⟩
theorem pe_bl {b j pos} : PE X (.Constant (.bool b) j pos) (tC (.bl b)) := fun _ _ _ H _ I h => Constant_bool ⟨.bl b, H, I, rfl, h⟩
theorem pe_non {j pos} : PE X (.Constant .none j pos) (tC .non) := fun _ _ _ H _ I h => Constant_none ⟨.non, H, I, rfl, h⟩
theorem pe_str {x j pos} : PE X (.Constant (.str x) j pos) (tC (.str x)) := fun _ _ _ H _ I h => Calls.Constant_str ⟨.str x, H, I.tok _, ⟨_, rfl⟩, h⟩

/-- a global name of the def -/
def Gl (X : Cx) (x : Str) : Prop := X.env.kindOf x = some .globalImplicit
theorem ld_glob {E : Value → Shared → Prop} {pins : List (Addr × Obj)} {s : Shared} {σ : St} {H : Hp} {x : Str} {u : Value} {pos : Pos} {Q : Value → Shared → Prop} (I : Inv X pins σ H s) (hg : Gl X x) (hm : X.mg x = some u) (h : Q u s)
    (hd : (x == ("__debug__" : Str)) = false := by decide) : wpAny (model X.prog X.w) X.A (eval (.Name x pos) X.env) Q E s :=
  Calls.Name_function_global I.ok.kind hg (Calls.loadGlobal_global (by rw [I.ok.glob]; exact I.mod.glob.keeps I.bk) hm h) hd
theorem ld_blt {E : Value → Shared → Prop} {pins : List (Addr × Obj)} {s : Shared} {σ : St} {H : Hp} {x : Str} {u : Value} {pos : Pos} {Q : Value → Shared → Prop} (I : Inv X pins σ H s) (hg : Gl X x) (hm : X.mg x = none) (hv : bootBuiltins x = some u) (h : Q u s)
    (hn : x ≠ "__name__" := by decide) (hd : (x == ("__debug__" : Str)) = false := by decide) : wpAny (model X.prog X.w) X.A (eval (.Name x pos) X.env) Q E s := by
  obtain ⟨mb, h1, h2⟩ := I.mod.blt
  exact Calls.Name_function_global I.ok.kind hg (Calls.loadGlobal_builtin (by rw [I.ok.glob]; exact I.mod.glob.keeps I.bk) hm (by rw [I.ok.blt]; exact h1.keeps I.bk) ((h2 x hn).trans hv) h) hd
/-- a module's constant, a class, a function, as a value -/
theorem pe_glob {x : Str} {v : V} {u : Value} {pos : Pos} (hg : Gl X x) (hm : X.mg x = some u) (r : RelV v u) (hd : (x == ("__debug__" : Str)) = false := by decide) : PE X (.Name x pos) (tC v) :=
  fun _ _ _ H _ I h => ld_glob I hg hm ⟨v, H, I, r, h⟩ hd
/-! ### arithmetic -/
variable {a b : Expr} {ta tb : TE} {pos : Pos}
/-! ### comparisons -/
/-! ### and, or, not -/
variable {tA tB' : TT} {rest : List Expr}
def tAnd (t u : TT) : TT := fun σ H Q => t σ H fun c H1 => if c = true then u σ H1 Q else Q false H1
def tOr (t u : TT) : TT := fun σ H Q => t σ H fun c H1 => if c = true then Q true H1 else u σ H1 Q
def tNot (t : TT) : TT := fun σ H Q => t σ H fun c H1 => Q (!c) H1
theorem pw_and1 (ha : PT X a tA) : PW X (.BoolOp .And [a] pos) tA := by
  intro wh pins s σ H Q I h
  refine isTrue_and (thn (ha pins s σ H Q I h) fun c s1 e => ?_)
  cases c with
  | true => exact isTrue_and_nil e
  | false => exact e
theorem pw_or1 (ha : PT X a tA) : PW X (.BoolOp .Or [a] pos) tA := by
  intro wh pins s σ H Q I h
  refine isTrue_or (thn (ha pins s σ H Q I h) fun c s1 e => ?_)
  cases c with
  | false => exact isTrue_or_nil e
  | true => exact e
theorem pw_and (ha : PT X a tA) (hb : PW X (.BoolOp .And (b :: rest) pos) tB') : PW X (.BoolOp .And (a :: b :: rest) pos) (tAnd tA tB') := by
  intro wh pins s σ H Q I h
  refine isTrue_and (thn (ha pins s σ H _ I h) fun c s1 ⟨H1, I1, q1⟩ => ?_)
  cases c with
  | true => exact hb wh pins s1 σ H1 Q I1 q1
  | false => exact ⟨H1, I1, q1⟩
theorem pw_or (ha : PT X a tA) (hb : PW X (.BoolOp .Or (b :: rest) pos) tB') : PW X (.BoolOp .Or (a :: b :: rest) pos) (tOr tA tB') := by
  intro wh pins s σ H Q I h
  refine isTrue_or (thn (ha pins s σ H _ I h) fun c s1 ⟨H1, I1, q1⟩ => ?_)
  cases c with
  | true => exact ⟨H1, I1, q1⟩
  | false => exact hb wh pins s1 σ H1 Q I1 q1
theorem pt_not (ha : PT X a tA) : PT X (.UnaryOp .Not a pos) (tNot tA) := by
  intro pins s σ H Q I h
  exact isTrue_not (ha pins s σ H (fun c H1 => Q (!c) H1) I h)
/-- a if t else b -/
def tIf (t : TT) (ta tb : TE) : TE := fun σ H Q => t σ H fun c H1 => if c = true then ta σ H1 Q else tb σ H1 Q
theorem pe_ifExp {c : Expr} (hc : PT X c tA) (ha : PE X a ta) (hb : PE X b tb) : PE X (.IfExp c a b pos) (tIf tA ta tb) := by
  intro pins s σ H Q I h
  refine wpAny_IfExp (thn (hc pins s σ H _ I h) fun d s1 ⟨H1, I1, q1⟩ => ?_)
  cases d with
  | true => exact ha pins s1 σ H1 Q I1 q1
  | false => exact hb pins s1 σ H1 Q I1 q1
end
end L2

namespace L2
open PySem PySem.Spec PyProof.Rows

/-! ### a list, a tuple that is read: tracked, frozen, or an object of the module -/
def SqL (K : PySem.W.Frag) (H : Hp) (a : Addr) (xs : List V) : Prop :=
  Rd H a (.lst xs) ∨
    ∃ (o : Obj) (its : Array Value) (n : Nat), K.lookup a = some o ∧ o.cls = .type "list" ∧ o.dict = none ∧ o.data = .seq its n ∧ its.size ≤ sizeLine ∧ Vals xs its.toList
def SqT (K : PySem.W.Frag) (H : Hp) (a : Addr) (xs : List V) : Prop :=
  Rd H a (.tup xs) ∨
    ∃ (o : Obj) (its : Array Value) (n : Nat), K.lookup a = some o ∧ o.cls = .type "tuple" ∧ o.data = .seq its n ∧ its.size ≤ sizeLine ∧ Vals xs its.toList
def absV : Value → Option V
  | .none => some .non
  | .bool b => some (.bl b)
  | .int i _ => some (.int i)
  | .str x _ => some (.str x)
  | .bytes b _ => some (.byt b)
  | .float b _ => some (.flt b)
  | .ref a => some (.ref a)
  | .type n => some (.ty n)
  | _ => none
theorem RelV.abs {x : V} {u : Value} (r : RelV x u) : absV u = some x := by
  cases x with
  | non => cases r; rfl
  | bl _ => cases r; rfl
  | int _ => obtain ⟨t, rfl⟩ := r; rfl
  | str _ => obtain ⟨t, rfl⟩ := r; rfl
  | byt _ => obtain ⟨t, rfl⟩ := r; rfl
  | flt _ => obtain ⟨t, rfl⟩ := r; rfl
  | ref _ => cases r; rfl
  | ty _ => cases r; rfl
theorem RelV.inj {x y : V} {u : Value} (r : RelV x u) (q : RelV y u) : x = y := Option.some.inj (r.abs.symm.trans q.abs)
theorem Vals.inj : ∀ {xs ys : List V} {us : List Value}, Vals xs us → Vals ys us → xs = ys
  | _, _, _, .nil, .nil => rfl
  | _, _, _, .cons r t, .cons r' t' => by rw [r.inj r', Vals.inj t t']
section
variable {X : Cx} {pins : List (Addr × Obj)} {σ : St} {H : Hp} {s : Shared} {a : Addr} {xs ys : List V}
theorem SqL.of {K : PySem.W.Frag} (h : H a = some (.lst xs)) : SqL K H a xs := .inl (.inl h)
theorem SqT.of {K : PySem.W.Frag} (h : H a = some (.tup xs)) : SqT K H a xs := .inl (.inl h)
theorem Inv.list (I : Inv X pins σ H s) (h : SqL X.K H a xs) : ∃ its : List Value, Vals xs its ∧ PlainL s.heap a its.toArray ∧ xs.length ≤ sizeLine := by
  rcases h with h | ⟨o, its, n, hk, hc, hd, hs, hz, r⟩
  · obtain ⟨z, its, n, r, e⟩ := h.ok I.hok
    exact ⟨its, r, ⟨_, n, e, rfl, rfl, rfl⟩, z⟩
  · refine ⟨its.toList, r, ⟨o, n, I.kIn a o hk, hc, hd, by simpa using hs⟩, ?_⟩
    have e := r.length
    simp only [Array.length_toList] at e
    omega
theorem Inv.tuple (I : Inv X pins σ H s) (h : SqT X.K H a xs) : ∃ its : List Value, Vals xs its ∧ IsTup s.heap a its.toArray ∧ xs.length ≤ sizeLine := by
  rcases h with h | ⟨o, its, n, hk, hc, hs, hz, r⟩
  · obtain ⟨z, its, r, p⟩ := h.ok I.hok
    exact ⟨its, r, p, z⟩
  · refine ⟨its.toList, r, ⟨o, I.kIn a o hk, hc, n, by simpa using hs⟩, ?_⟩
    have e := r.length
    simp only [Array.length_toList] at e
    omega
theorem Inv.list_inj (I : Inv X pins σ H s) (h : SqL X.K H a xs) (h' : SqL X.K H a ys) : xs = ys := by
  obtain ⟨its, r, ⟨o, n, e, _, _, d⟩, _⟩ := I.list h
  obtain ⟨its', r', ⟨o', n', e', _, _, d'⟩, _⟩ := I.list h'
  rw [e] at e'; cases e'
  rw [d] at d'
  injection d' with d1 _
  have : its = its' := by simpa using congrArg Array.toList d1
  subst this
  exact r.inj r'
theorem Inv.tuple_inj (I : Inv X pins σ H s) (h : SqT X.K H a xs) (h' : SqT X.K H a ys) : xs = ys := by
  obtain ⟨its, r, ⟨o, e, _, n, d⟩, _⟩ := I.tuple h
  obtain ⟨its', r', ⟨o', e', _, n', d'⟩, _⟩ := I.tuple h'
  rw [e] at e'; cases e'
  rw [d] at d'
  injection d' with d1 _
  have : its = its' := by simpa using congrArg Array.toList d1
  subst this
  exact r.inj r'
end

/-! ### another wish about exceptions -/
abbrev Cx.wish (X : Cx) (E : Value → Shared → Prop) : Cx := { X with xe := E }
/-- no exception leaves -/
abbrev Cx.nox (X : Cx) : Cx := X.wish fun _ _ => False
theorem Cx.Ok.wish {X : Cx} (ok : X.Ok) (E : Value → Shared → Prop) : (X.wish E).Ok :=
  ⟨ok.mod, ok.kind, ok.glob, ok.blt, ok.above, ok.inj, ok.has, ok.cab, ok.hd, ok.frames, ok.stk, ok.exf, ok.bs, ok.bsz, ok.noex, ok.exfs, ok.funs, ok.frf⟩
theorem Cx.Ok.unwish {X : Cx} {E : Value → Shared → Prop} (ok : (X.wish E).Ok) : X.Ok :=
  ⟨ok.mod, ok.kind, ok.glob, ok.blt, ok.above, ok.inj, ok.has, ok.cab, ok.hd, ok.frames, ok.stk, ok.exf, ok.bs, ok.bsz, ok.noex, ok.exfs, ok.funs, ok.frf⟩
section
variable {X : Cx} {pins : List (Addr × Obj)} {σ : St} {H : Hp} {s : Shared} {E : Value → Shared → Prop}
theorem Inv.wish (I : Inv X pins σ H s) (E : Value → Shared → Prop) : Inv (X.wish E) pins σ H s := ⟨I.ok.wish E, I.os, I.bare, I.base, I.loc, I.cell, I.free, I.freeC, I.pin, I.hok, I.len⟩
theorem Inv.unwish (I : Inv (X.wish E) pins σ H s) : Inv X pins σ H s := ⟨I.ok.unwish, I.os, I.bare, I.base, I.loc, I.cell, I.free, I.freeC, I.pin, I.hok, I.len⟩
theorem SP.unwish {D : Ends} {f : Flow} {s' : Shared} (h : SP (X.wish E) pins D f s') : SP X pins D f s' := by
  cases f with
  | next => obtain ⟨σ', H', I, q⟩ := h; exact ⟨σ', H', I.unwish, q⟩
  | brk => obtain ⟨σ', H', I, q⟩ := h; exact ⟨σ', H', I.unwish, q⟩
  | cont => obtain ⟨σ', H', I, q⟩ := h; exact ⟨σ', H', I.unwish, q⟩
  | ret u => obtain ⟨v, σ', H', I, r, q⟩ := h; exact ⟨v, σ', H', I.unwish, r, q⟩
theorem PE.nox {e : Expr} {t : TE} (h : PE X.nox e t) : PE X e t := fun pins s σ H Q I hw =>
  wpAny_mono (h pins s σ H Q (I.wish _) hw) (fun _ _ ⟨v, H', I', r, q⟩ => ⟨v, H', I'.unwish, r, q⟩) fun _ _ z => False.elim z
theorem PT.nox {e : Expr} {t : TT} (h : PT X.nox e t) : PT X e t := fun pins s σ H Q I hw =>
  wpAny_mono (h pins s σ H Q (I.wish _) hw) (fun _ _ ⟨H', I', q⟩ => ⟨H', I'.unwish, q⟩) fun _ _ z => False.elim z
theorem PSs.nox {st : List Stmt} {t : TS} (h : PSs X.nox st t) : PSs X st t := fun pins s σ H D I hw =>
  wpAny_mono (h pins s σ H D (I.wish _) hw) (fun _ _ q => q.unwish) fun _ _ z => False.elim z
end

/-! ### blocks and small statements -/
section
variable {X : Cx} {st : Stmt} {rest : List Stmt} {t u : TS} {e : Expr} {te : TE} {pos : Pos}
def tNext : TS := fun D σ H => D.nx σ H
def tSeq (t u : TS) : TS := fun D σ H => t { D with nx := u D } σ H
theorem pss_nil : PSs X [] tNext := fun _ _ σ H _ I h => wpAny_execs_nil ⟨σ, H, I, h⟩
theorem pss_cons (h1 : PS X st t) (h2 : PSs X rest u) : PSs X (st :: rest) (tSeq t u) := by
  intro pins s σ H D I h
  refine wpAny_execs_cons (thn (h1 pins s σ H { D with nx := u D } I h) fun f s1 q => ?_)
  cases f with
  | next =>
    obtain ⟨σ', H', I', q⟩ := q
    exact h2 pins s1 σ' H' D I' q
  | ret v => exact q
  | brk => exact q
  | cont => exact q
theorem pss_one (h1 : PS X st t) : PSs X [st] t := by
  intro pins s σ H D I h
  refine wpAny_execs_cons (thn (h1 pins s σ H D I h) fun f s1 q => ?_)
  cases f with
  | next => exact wpAny_execs_nil q
  | ret v => exact q
  | brk => exact q
  | cont => exact q
/-- in a def's body nothing is shown -/
theorem Inv.quiet {pins : List (Addr × Obj)} {σ : St} {H : Hp} {s : Shared} (I : Inv X pins σ H s) : interactive X.env = false := by simp [interactive, I.ok.kind]
/-- an expression whose value is dropped -/
def tDrop (te : TE) : TS := fun D σ H => te σ H fun _ H1 => D.nx σ H1
theorem ps_expr (he : PE X e te) (hs : swapsWith e none pos.line X.env = pure false := by rfl) : PS X (.Expr e pos) (tDrop te) := by
  intro pins s σ H D I h
  exact wpAny_Expr_any (thn (he pins s σ H _ I h) fun v s1 ⟨x, H1, I1, r1, q1⟩ => ⟨σ, H1, I1, q1⟩) I.quiet hs
def tRet (te : TE) : TS := fun D σ H => te σ H D.rt
theorem ps_ret (he : PE X e te) : PS X (.Return (some e) pos) (tRet te) := by
  intro pins s σ H D I h
  exact wpAny_Return_some (thn (he pins s σ H _ I h) fun v s1 ⟨x, H1, I1, r1, q1⟩ => ⟨x, σ, H1, I1, r1, q1⟩)
def tIfS (c : TT) (t u : TS) : TS := fun D σ H => c σ H fun b H1 => if b = true then t D σ H1 else u D σ H1
theorem ps_if {c : Expr} {a b : List Stmt} {tc : TT} (hc : PT X c tc) (ha : PSs X a t) (hb : PSs X b u) : PS X (.If c a b pos) (tIfS tc t u) := by
  intro pins s σ H D I h
  refine wpAny_If (thn (hc pins s σ H _ I h) fun d s1 ⟨H1, I1, q1⟩ => ?_)
  cases d with
  | true => exact ha pins s1 σ H1 D I1 q1
  | false => exact hb pins s1 σ H1 D I1 q1
end

/-! ### targets -/
abbrev TG := V → St → Hp → (St → Hp → Prop) → Prop
abbrev TGs := List V → St → Hp → (St → Hp → Prop) → Prop
def PG (X : Cx) (target : Expr) (t : TG) : Prop :=
  ∀ (pins : List (Addr × Obj)) (s : Shared) (σ : St) (H : Hp) (v : V) (u : Value) (Q : St → Hp → Prop), Inv X pins σ H s → RelV v u → t v σ H Q →
    wpAny (model X.prog X.w) X.A (assign target X.env u) (fun _ s' => ∃ σ' H', Inv X pins σ' H' s' ∧ Q σ' H') X.xe s
/-- several targets, one after another -/
def PGs (X : Cx) (ts : List Expr) (t : TGs) : Prop :=
  ∀ (pins : List (Addr × Obj)) (s : Shared) (σ : St) (H : Hp) (vs : List V) (us : List Value) (Q : St → Hp → Prop), Inv X pins σ H s → Vals vs us → t vs σ H Q →
    wpAny (model X.prog X.w) X.A (assignInOrder ((assignEach ts X.env).map (·.2)) us) (fun _ s' => ∃ σ' H', Inv X pins σ' H' s' ∧ Q σ' H') X.xe s
/-- o[i] = v, by values -/
abbrev TSet := V → V → V → Hp → (Hp → Prop) → Prop
def PSet (X : Cx) (t : TSet) : Prop :=
  ∀ (pins : List (Addr × Obj)) (s : Shared) (σ : St) (H : Hp) (o i v : V) (ov iv u : Value) (Q : Hp → Prop), Inv X pins σ H s → RelV o ov → RelV i iv → RelV v u → t o i v H Q →
    wpAny (model X.prog X.w) X.A (setItem ov iv u) (fun _ s' => ∃ H', Inv X pins σ H' s' ∧ Q H') X.xe s
section
variable {X : Cx} {pos : Pos}
def gName (i : Nat) : TG := fun v σ H Q => Q (σ.set i (some v)) H
theorem pg_name {i : Nat} {x : Str} (hN : X.N.Nodup) (hi : X.N[i]? = some x) (hx : Loc X.env.scope x) (hf : X.fn x = true ∨ X.env.scope.names.lookup x = some .local := by first | exact .inl rfl | exact .inr rfl | assumption) : PG X (.Name x pos) (gName i) := by
  intro pins s σ H v u Q I r h
  exact wpAny_assign_Name (store_ok I hN hi hx r (fun s' I' => ⟨_, H, I', h⟩) hf)
def gNil : TGs := fun vs σ H Q => vs = [] ∧ Q σ H
def gCons (t : TG) (u : TGs) : TGs := fun vs σ H Q => ∃ v r, vs = v :: r ∧ t v σ H fun σ' H' => u r σ' H' Q
theorem pgs_nil : PGs X [] gNil := by
  intro pins s σ H vs us Q I r h
  obtain ⟨e, h⟩ := h
  subst e
  cases r
  exact assignInOrder_nil ⟨σ, H, I, h⟩
theorem pgs_cons {e : Expr} {es : List Expr} {t : TG} {u : TGs} (h1 : PG X e t) (h2 : PGs X es u)
    (hs : (assignEach (e :: es) X.env).map (·.2) = assign e X.env :: (assignEach es X.env).map (·.2) := by rfl) : PGs X (e :: es) (gCons t u) := by
  intro pins s σ H vs us Q I r h
  obtain ⟨v, vr, e1, h⟩ := h
  subst e1
  cases r with
  | cons r rr =>
    rw [hs]
    refine assignInOrder_cons (thn (h1 pins s σ H _ _ _ I r h) fun _ s1 ⟨σ1, H1, I1, q1⟩ => ?_)
    exact h2 pins s1 σ1 H1 _ _ Q I1 rr q1
/-- (a, b, ..) = a tuple of that length -/
def gTup (K : PySem.W.Frag) (n : Nat) (t : TGs) : TG := fun v σ H Q => ∃ a xs, v = .ref a ∧ SqT K H a xs ∧ xs.length = n ∧ t xs σ H Q
theorem pg_tup {es : List Expr} {k : Nat} {t : TGs} {n : Nat} (hc : X.calm = true) (h : PGs X es t)
    (hn : (assignEach es X.env).length = n := by rfl) (hst : (assignEach es X.env).findIdx? (·.1) = none := by rfl) : PG X (.Tuple es k pos) (gTup X.K n t) := by
  intro pins s σ H v u Q I r hw
  obtain ⟨a, xs, e1, hq, hl, hw⟩ := hw
  subst e1
  cases r
  obtain ⟨its, rv, ht, hz⟩ := I.tuple hq
  refine assign_Tuple_tuple (I.ok.hd hc) ht (by simp [hn, ← hl, rv.length]) hst fun h' hx => ?_
  have I1 : Inv X pins σ H { s with heap := h' } := I.kept (t' := s.toks) fun b o e => hx b o (Nat.ne_of_lt (Heap.lt_size e)) e
  exact h pins _ σ H xs _ Q I1 (by simpa using rv) hw
/-- o[i] = .. -/
def gSub (to ti : TE) (t : TSet) : TG := fun v σ H Q => to σ H fun o H1 => ti σ H1 fun i H2 => t o i v H2 fun H3 => Q σ H3
theorem pg_sub {o i : Expr} {to ti : TE} {t : TSet} (ho : PE X o to) (hi : PE X i ti) (hs : PSet X t)
    (ha : ∀ v, assign (.Subscript o i pos) X.env v = (do
      let ov ← holding [v] (eval o X.env)
      let iv ← holding [v, ov] (eval i X.env)
      standAt pos
      holding [v, ov, iv] (setItem ov iv v)
      release [v, ov, iv] []) := by intro _; rfl) : PG X (.Subscript o i pos) (gSub to ti t) := by
  intro pins s σ H v u Q I r h
  rw [ha]
  refine wpAny_bind (wpAny_holding (thn (ho pins s σ H _ I h) fun ov s1 ⟨x, H1, I1, r1, q1⟩ => ?_))
  refine wpAny_bind (wpAny_holding (thn (hi pins s1 σ H1 _ I1 q1) fun iv s2 ⟨y, H2, I2, r2, q2⟩ => ?_))
  refine wpAny_bind (wpAny_standAt (wpAny_bind (wpAny_holding (thn (hs pins s2 σ H2 x y v ov iv u _ I2 r1 r2 r q2) fun _ s3 ⟨H3, I3, q3⟩ => ?_))))
  exact wpAny_release ⟨σ, H3, I3, q3⟩
/-- target = value -/
def tAsg (te : TE) (g : TG) : TS := fun D σ H => te σ H fun x H1 => g x σ H1 D.nx
theorem ps_asg {tg e : Expr} {te : TE} {g : TG} (he : PE X e te) (hg : PG X tg g) (hs : swapsWithSole [tg] e pos.line X.env = pure false := by rfl) (hw : swappedStores [tg] e X.env = pure none := by rfl)
    (h1 : (assignEach [tg] X.env).map (·.2) = [assign tg X.env] := by rfl) : PS X (.Assign [tg] e pos) (tAsg te g) := by
  intro pins s σ H D I h
  refine wpAny_Assign_stores (thn (he pins s σ H _ I h) fun v s1 ⟨x, H1, I1, r1, q1⟩ => ?_) hs hw
  rw [h1]
  exact thn (hg pins s1 σ H1 x v _ I1 r1 q1) fun _ s2 q => q
/-- name = value -/
theorem ps_set {i : Nat} {x : Str} {e : Expr} {te : TE} {pos' : Pos} (hN : X.N.Nodup) (hi : X.N[i]? = some x) (hx : Loc X.env.scope x) (he : PE X e te) (hs : swapsWith e (some (.Name x pos')) pos.line X.env = pure false := by rfl) (hf : X.fn x = true ∨ X.env.scope.names.lookup x = some .local := by first | exact .inl rfl | exact .inr rfl | assumption) :
    PS X (.Assign [.Name x pos'] e pos) (tAsg te (gName i)) := by
  intro pins s σ H D I h
  refine wpAny_Assign_Name (thn (he pins s σ H _ I h) fun v s1 ⟨y, H1, I1, r1, q1⟩ => ?_) hs
  exact store_ok I1 hN hi hx r1 (fun s2 I2 => ⟨_, H1, I2, q1⟩) hf
end

/-! ### while -/
section
variable {X : Cx} {pos : Pos}
end

/-! ### what a loop or a comprehension walks -/
/-- at turn i: it yields x (the heap may grow), or it stops -/
structure It where
  go : Nat → Hp → Prop
  yld : Nat → Hp → V → Hp → Prop
  stop : Nat → Hp → Prop
/-- the iterator's own objects may turn: they are not the frame's, not pinned, younger than the entry (or a comprehension's own) -/
def FpOk (X : Cx) (pins : List (Addr × Obj)) (H : Hp) (b : Addr) : Prop :=
  H b = none ∧ b ≠ X.env.locals ∧ b ∉ X.fs ∧ (b ∈ X.ex ∨ X.s_0.heap.objs.size ≤ b) ∧ (∀ x c, X.env.cells.lookup x = some c → c ≠ b) ∧ ∀ p ∈ X.pn ++ pins, p.1 ≠ b
theorem Inv.fpOk {X : Cx} {pins : List (Addr × Obj)} {σ : St} {H H' : Hp} {s : Shared} {b : Addr} (I : Inv X pins σ H s) (hb : s.heap.objs.size ≤ b) (hn : H' b = none) : FpOk X pins H' b := by
  refine ⟨hn, Nat.ne_of_gt (Nat.lt_of_lt_of_le I.lt hb), I.nofs hb, .inr (Nat.le_trans I.sz hb), fun x c e z => ?_, fun p hp z => ?_⟩
  · obtain ⟨v, q⟩ := I.cell x c e
    exact absurd (Nat.lt_of_lt_of_le q.lt (by rw [z]; exact hb)) (Nat.lt_irrefl _)
  · exact absurd (Nat.lt_of_lt_of_le (Heap.lt_size (I.pin p hp).1) (by rw [z]; exact hb)) (Nat.lt_irrefl _)
structure Turn (P : Program) (w : World) (K : PySem.W.Frag) (tg : Expr) (J : It) (fp : List Addr) (it : Addr) (tn : Nat → Heap → Prop) : Prop where
  mem : it ∈ fp
  obj : ∀ i h, tn i h → ∀ b ∈ fp, ∃ o, h.get? b = some o ∧ ∀ v, o.data ≠ .cell v
  keep : ∀ i h h', tn i h → (∀ b ∈ fp, ∀ o, h.get? b = some o → h'.get? b = some o) → tn i h'
  item : ∀ (X : Cx), X.prog = P → X.w = w → X.K = K → X.calm = true → ∀ (i : Nat) (pins : List (Addr × Obj)) (s : Shared) (σ : St) (H : Hp) (E : Value → Shared → Prop), Inv X pins σ H s → (∀ b ∈ fp, FpOk X pins H b) → tn i s.heap → J.go i H →
    wpAny (model P w) X.A (pyNext (.ref it)) (fun r s1 => ∃ u, r = some u ∧
      wpAny (model P w) X.A (letOwnedTupleGo tg (.ref it) u) (fun _ s2 => ∃ x H', Inv X pins σ H' s2 ∧ RelV x u ∧ J.yld i H x H' ∧ tn (i + 1) s2.heap ∧ ∀ b ∈ fp, H' b = none) E s1) E s
  done : ∀ (X : Cx), X.prog = P → X.w = w → X.K = K → X.calm = true → ∀ (i : Nat) (pins : List (Addr × Obj)) (s : Shared) (σ : St) (H : Hp) (E : Value → Shared → Prop), Inv X pins σ H s → (∀ b ∈ fp, FpOk X pins H b) → tn i s.heap → J.stop i H →
    wpAny (model P w) X.A (pyNext (.ref it)) (fun r s1 => r = none ∧ Inv X pins σ H s1) E s
  self : ∀ (A : Around) (i : Nat) (s : Shared) (Q : Value → Shared → Prop) (E : Value → Shared → Prop), tn i s.heap → Q (.ref it) s → wpAny (model P w) A (pyIter (.ref it)) Q E s
abbrev TI := St → Hp → (It → Hp → Prop) → Prop
/-- an iterator has come -/
def PIE (X : Cx) (pins : List (Addr × Obj)) (σ : St) (tg : Expr) (R : It → Hp → Prop) (itv : Value) (s2 : Shared) : Prop :=
  ∃ (it : Addr) (fp : List Addr) (tn : Nat → Heap → Prop) (J : It) (H' : Hp), itv = .ref it ∧ Inv X pins σ H' s2 ∧ Turn X.prog X.w X.K tg J fp it tn ∧ tn 0 s2.heap ∧ (∀ b ∈ fp, FpOk X pins H' b) ∧ R J H'
def PI (X : Cx) (tg iter : Expr) (wi : TI) : Prop :=
  ∀ (pins : List (Addr × Obj)) (s : Shared) (σ : St) (H : Hp) (R : It → Hp → Prop), Inv X pins σ H s → wi σ H R →
    wpAny (model X.prog X.w) X.A (eval iter X.env) (fun v s1 => wpAny (model X.prog X.w) X.A (pyIter v) (PIE X pins σ tg R) X.xe s1) X.xe s

/-- the step ahead of the store is nothing for an iterator that keeps no tuple -/
theorem go_of {M : Model} {A : Around} {E : Value → Shared → Prop} {s : Shared} {tg : Expr} {it : Addr} {u : Value} {o : Obj} {n : String} {vs : Array Value} {Q : Unit → Shared → Prop} (ho : s.heap.get? it = some o) (hc : o.cls = .type n) (hd : o.data = .fields vs)
    (hn : ["enumerate", "zip", "dict_itemiterator", "dict_reverseitemiterator", "odict_iterator", "itertools.zip_longest", "itertools.pairwise"].contains n = false) (hQ : Q () s) : wpAny M A (letOwnedTupleGo tg (.ref it) u) Q E s := by
  unfold letOwnedTupleGo
  cases tg <;> first
    | exact wpAny_pure hQ
    | (cases u <;> first
        | exact wpAny_pure hQ
        | (refine wpAny_bind (wpAny_load ho ?_)
           rw [hc, hd]
           show wpAny M A (if (["enumerate", "zip", "dict_itemiterator", "dict_reverseitemiterator", "odict_iterator", "itertools.zip_longest", "itertools.pairwise"].contains n && vs[0]? == some (rawInt _)) = true then _ else _) Q E s
           rw [if_neg (by intro h; rw [hn, Bool.false_and] at h; cases h)]
           exact wpAny_pure hQ))

/-- the list at a, as it stands at each turn (a loop may append to it) -/
def Itl (K : PySem.W.Frag) (a : Addr) : It :=
  ⟨fun i H => ∃ xs x, SqL K H a xs ∧ xs[i]? = some x, fun i H x H' => H' = H ∧ ∀ xs, SqL K H a xs → xs[i]? = some x, fun i H => ∃ xs, SqL K H a xs ∧ xs.length ≤ i⟩
def Itt (K : PySem.W.Frag) (a : Addr) : It :=
  ⟨fun i H => ∃ xs x, SqT K H a xs ∧ xs[i]? = some x, fun i H x H' => H' = H ∧ ∀ xs, SqT K H a xs → xs[i]? = some x, fun i H => ∃ xs, SqT K H a xs ∧ xs.length ≤ i⟩
/-- lo, lo + 1, .. (n of them) -/
def Itr (lo : Int) (n : Nat) : It := ⟨fun i _ => i < n, fun i H x H' => H' = H ∧ x = .int (lo + i), fun i _ => n ≤ i⟩
theorem turn_list {P : Program} {w : World} {K : PySem.W.Frag} {tg : Expr} (a it : Addr) : Turn P w K tg (Itl K a) [it] it (fun i h => h.IsListIter it a i) where
  mem := by simp
  obj := fun i h st b hb => by
    have e : b = it := by simpa using hb
    subst e
    obtain ⟨o, e, c, d⟩ := st
    exact ⟨o, e, fun v z => by rw [d] at z; cases z⟩
  keep := fun i h h' st k => st.at fun o e => k it (by simp) o e
  item := by
    intro X hP hw hK hc i pins s σ H E I hf st hg
    subst hP hw hK
    obtain ⟨xs, x, hq, hx⟩ := hg
    obtain ⟨its, rv, p, hz⟩ := I.list hq
    obtain ⟨u, hu, ru⟩ := rv.get hx
    obtain ⟨f0, f1, f2, f3, f4, f5⟩ := hf it (by simp)
    refine wpAny_pyNext_list_item st p.isList (x := u) (by simpa using hu) fun h' st' sb => ?_
    have I1 : Inv X pins σ H { s with heap := h' } := I.turned (t' := s.toks) (fun b o hb e => (sb.2 b hb).trans e) f0 f1 f3 f4 f5
    obtain ⟨o, e, c, d⟩ := id st'
    exact ⟨u, rfl, go_of (s := { s with heap := h' }) e c d (by decide) ⟨x, H, I1, ru, ⟨rfl, fun ys hy => by rw [I.list_inj hy hq]; exact hx⟩, st', fun b hb => (hf b hb).1⟩⟩
  done := by
    intro X hP hw hK hc i pins s σ H E I hf st hg
    subst hP hw hK
    obtain ⟨xs, hq, hx⟩ := hg
    obtain ⟨its, rv, p, hz⟩ := I.list hq
    obtain ⟨f0, f1, f2, f3, f4, f5⟩ := hf it (by simp)
    have hl := rv.length
    exact wpAny_pyNext_list_end (I.ok.hd hc) st p.isList (by simp; omega) fun h' eb => ⟨rfl, I.turned (t' := s.toks) (fun b o hb e => eb b o hb e) f0 f1 f3 f4 f5⟩
  self := fun _ _ _ _ _ st h => wpAny_pyIter_listiter st h
theorem turn_tuple {P : Program} {w : World} {K : PySem.W.Frag} {tg : Expr} (a it : Addr) : Turn P w K tg (Itt K a) [it] it (fun i h => h.IsTupleIter it a i) where
  mem := by simp
  obj := fun i h st b hb => by
    have e : b = it := by simpa using hb
    subst e
    obtain ⟨o, e, c, d⟩ := st
    exact ⟨o, e, fun v z => by rw [d] at z; cases z⟩
  keep := fun i h h' st k => st.at fun o e => k it (by simp) o e
  item := by
    intro X hP hw hK hc i pins s σ H E I hf st hg
    subst hP hw hK
    obtain ⟨xs, x, hq, hx⟩ := hg
    obtain ⟨its, rv, p, hz⟩ := I.tuple hq
    obtain ⟨u, hu, ru⟩ := rv.get hx
    obtain ⟨f0, f1, f2, f3, f4, f5⟩ := hf it (by simp)
    refine wpAny_pyNext_tuple_item st (show s.heap.IsTuple a its.toArray from p) (x := u) (by simpa using hu) fun h' st' sb => ?_
    have I1 : Inv X pins σ H { s with heap := h' } := I.turned (t' := s.toks) (fun b o hb e => (sb.2 b hb).trans e) f0 f1 f3 f4 f5
    obtain ⟨o, e, c, d⟩ := id st'
    exact ⟨u, rfl, go_of (s := { s with heap := h' }) e c d (by decide) ⟨x, H, I1, ru, ⟨rfl, fun ys hy => by rw [I.tuple_inj hy hq]; exact hx⟩, st', fun b hb => (hf b hb).1⟩⟩
  done := by
    intro X hP hw hK hc i pins s σ H E I hf st hg
    subst hP hw hK
    obtain ⟨xs, hq, hx⟩ := hg
    obtain ⟨its, rv, p, hz⟩ := I.tuple hq
    obtain ⟨f0, f1, f2, f3, f4, f5⟩ := hf it (by simp)
    have hl := rv.length
    exact wpAny_pyNext_tuple_end (I.ok.hd hc) st (show s.heap.IsTuple a its.toArray from p) (by simp; omega) fun h' eb => ⟨rfl, I.turned (t' := s.toks) (fun b o hb e => eb b o hb e) f0 f1 f3 f4 f5⟩
  self := fun _ _ _ _ _ st h => wpAny_pyIter_tupleiter st h
theorem turn_range {P : Program} {w : World} {K : PySem.W.Frag} {tg : Expr} (it : Addr) (lo : Int) (n : Nat) : Turn P w K tg (Itr lo n) [it] it (fun i h => IsRangeIter h it (lo + (i : Nat) * 1) ((n : Int) - (i : Nat)) 1) where
  mem := by simp
  obj := fun i h st b hb => by
    have e : b = it := by simpa using hb
    subst e
    exact ⟨_, st, fun v z => by
      have z' : Data.fields _ = Data.cell v := z
      cases z'⟩
  keep := fun i h h' st k => k it (by simp) _ st
  item := by
    intro X hP hw hK hc i pins s σ H E I hf st hg
    subst hP hw hK
    obtain ⟨f0, f1, f2, f3, f4, f5⟩ := hf it (by simp)
    have W := Walks.range (prog := X.prog) (w := X.w) (I.ok.hd hc) it lo 1 n
    refine W.item i s _ _ hg st fun v h' tk hv st' kk => ?_
    obtain ⟨t, rfl⟩ := hv
    have I1 : Inv X pins σ H { s with heap := h', toks := tk } := I.turned (fun b o hb e => kk b o (by simpa using hb) e) f0 f1 f3 f4 f5
    refine ⟨_, rfl, go_of (s := { s with heap := h', toks := tk }) (n := "range_iterator") st' rfl rfl (by decide) ⟨.int (lo + i), H, I1, ⟨t, ?_⟩, ⟨rfl, rfl⟩, st', fun b hb => (hf b hb).1⟩⟩
    rw [Int.mul_one]
  done := by
    intro X hP hw hK hc i pins s σ H E I hf st hg
    subst hP hw hK
    obtain ⟨f0, f1, f2, f3, f4, f5⟩ := hf it (by simp)
    exact wpAny_pyNext_range_end (I.ok.hd hc) st (by have : n ≤ i := hg; omega) fun h' eb => ⟨rfl, I.turned (t' := s.toks) (fun b o hb e => eb b o hb e) f0 f1 f3 f4 f5⟩
  self := fun _ _ _ _ _ st h => wpAny_pyIter_rangeiter st h
end L2

namespace L2
open PySem PySem.Spec PyProof.Rows
section
variable {X : Cx} {tg : Expr}
/-- a range object just made, walked -/
theorem range_it {pins : List (Addr × Obj)} {σ : St} {H : Hp} {s : Shared} {R : It → Hp → Prop} {E : Value → Shared → Prop} {lo hi : Int} {t u v : Tok} {tk : Nat} (I : Inv X pins σ H s) (h1 : -(2 ^ 62) ≤ lo) (h2 : lo < 2 ^ 62) (h3 : -(2 ^ 62) ≤ hi) (h4 : hi < 2 ^ 62)
    (q : R (Itr lo (hi - lo).toNat) H) : wpAny (model X.prog X.w) X.A (pyIter (.ref s.heap.objs.size)) (PIE X pins σ tg R) E { s with heap := s.heap.push { cls := .type "range", data := .fields #[.int lo t, .int hi u, .int 1 v] }, toks := tk } := by
  refine wpAny_pyIter_range (IsRange.new ..) (small_one h1 h2 h3 h4) ?_
  have I1 : Inv X pins σ H { s with heap := s.heap.push { cls := .type "range", data := .fields #[.int lo t, .int hi u, .int 1 v] }, toks := tk } := I.kept fun b o e => Heap.get?_push_of_some _ e
  refine ⟨(s.heap.push { cls := .type "range", data := .fields #[.int lo t, .int hi u, .int 1 v] }).objs.size, [(s.heap.push { cls := .type "range", data := .fields #[.int lo t, .int hi u, .int 1 v] }).objs.size], _, _, H, rfl,
    I1.kept (t' := tk) fun b o e => Heap.get?_push_of_some _ e, turn_range _ lo (hi - lo).toNat, ?_, fun b hb => ?_, q⟩
  · have e1 : lo + ((0 : Nat) : Int) * 1 = lo := by simp
    have e2 : (((hi - lo).toNat : Nat) : Int) - ((0 : Nat) : Int) = Builtin.Range.rangeSize lo hi 1 := by rw [rangeSize_one]; split <;> omega
    show IsRangeIter _ _ (lo + ((0 : Nat) : Int) * 1) ((((hi - lo).toNat : Nat) : Int) - ((0 : Nat) : Int)) 1
    rw [e1, e2]
    exact Heap.get?_push_size _ rfl
  · have e : b = (s.heap.push { cls := .type "range", data := .fields #[.int lo t, .int hi u, .int 1 v] }).objs.size := by simpa using hb
    subst e
    exact I1.fpOk (Nat.le_refl _) (I1.hok.fresh (Nat.le_refl _))
def iRng1 (ta : TA) : TI := fun σ H R => ta σ H fun vs H1 => ∃ j : Int, vs = [.int j] ∧ -(2 ^ 62) ≤ j ∧ j < 2 ^ 62 ∧ R (Itr 0 j.toNat) H1
def iRng2 (ta : TA) : TI := fun σ H R => ta σ H fun vs H1 => ∃ i j : Int, vs = [.int i, .int j] ∧ (-(2 ^ 62) ≤ i ∧ i < 2 ^ 62 ∧ -(2 ^ 62) ≤ j ∧ j < 2 ^ 62) ∧ R (Itr i (j - i).toNat) H1
theorem pi_range1 {a : Expr} {ta : TA} {p pos : Pos} (hg : Gl X "range") (hm : X.mg "range" = none) (ha : PA X [a] ta) (hs : starEach [a] X.env = [(false, eval a X.env)] := by rfl) : PI X tg (.Call (.Name "range" p) [a] [] pos) (iRng1 ta) := by
  intro pins s σ H R I h
  refine Call_ (ld_blt I hg hm boot_range (PyProof.Rows.callWith_type1 (thn (ha pos pins s σ H _ I h) fun us s1 ⟨vs, H1, I1, r1, q1⟩ => ?_) hs rfl))
  obtain ⟨j, e, q1, q2, q⟩ := q1
  subst e
  cases r1 with
  | cons r rr =>
    cases rr
    obtain ⟨t, rfl⟩ := r
    exact call_range_1 (range_it I1 (by omega) (by omega) q1 q2 (by simpa using q))
theorem pi_range2 {a b : Expr} {ta : TA} {p pos : Pos} (hg : Gl X "range") (hm : X.mg "range" = none) (ha : PA X [a, b] ta) (hs : starEach [a, b] X.env = [(false, eval a X.env), (false, eval b X.env)] := by rfl) (hs2 : starEach [b] X.env = [(false, eval b X.env)] := by rfl) :
    PI X tg (.Call (.Name "range" p) [a, b] [] pos) (iRng2 ta) := by
  intro pins s σ H R I h
  refine Call_ (ld_blt I hg hm boot_range (PyProof.Rows.callWith_type1 (thn (ha pos pins s σ H _ I h) fun us s1 ⟨vs, H1, I1, r1, q1⟩ => ?_) (by rw [hs, hs2]) (by rw [hs2]; rfl)))
  obtain ⟨i, j, e, ⟨q1, q2, q3, q4⟩, q⟩ := q1
  subst e
  cases r1 with
  | cons r rr =>
    cases rr with
    | cons r' rr =>
      cases rr
      obtain ⟨t, rfl⟩ := r
      obtain ⟨t', rfl⟩ := r'
      exact call_range_2 (range_it I1 q1 q2 q3 q4 q)

/-! ### for -/
/-- W: the invariant by the turn and a measure; N: what the body is to reach -/
def tFor (wi : TI) (g : TG) (tb : TS) : TS := fun D σ H => wi σ H fun J H1 => ∃ W : Nat → Nat → St → Hp → Prop, (∃ m, W 0 m σ H1) ∧ ∀ i m σ H, W i m σ H →
  (J.stop i H ∧ D.nx σ H) ∨ (J.go i H ∧ ∃ N : St → Hp → Prop, (∀ σ' H', N σ' H' → ∃ m', m' < m ∧ W (i + 1) m' σ' H') ∧ ∀ x H', J.yld i H x H' → g x σ H' fun σ2 H2 => tb { D with nx := N, ct := N, bk := D.nx } σ2 H2)
/-- the records at fp as they stand -/
def pinsAt (fp : List Addr) (h : Heap) : List (Addr × Obj) := fp.filterMap fun b => (h.get? b).map fun o => (b, o)
theorem mem_pinsAt {fp : List Addr} {h : Heap} {b : Addr} {o : Obj} (hb : b ∈ fp) (e : h.get? b = some o) : (b, o) ∈ pinsAt fp h := List.mem_filterMap.mpr ⟨b, hb, by rw [e]; rfl⟩
theorem of_pinsAt {fp : List Addr} {h : Heap} {p : Addr × Obj} (hp : p ∈ pinsAt fp h) : p.1 ∈ fp ∧ h.get? p.1 = some p.2 := by
  obtain ⟨b, hb, e⟩ := List.mem_filterMap.mp hp
  cases q : h.get? b with
  | none => rw [q] at e; cases e
  | some o =>
    rw [q] at e
    have e' : (b, o) = p := Option.some.inj e
    subst e'
    exact ⟨hb, q⟩
theorem Inv.pinned {pins : List (Addr × Obj)} {σ : St} {H : Hp} {s : Shared} {fp : List Addr} (I : Inv X pins σ H s) (hf : ∀ b ∈ fp, FpOk X pins H b) (ho : ∀ b ∈ fp, ∃ o, s.heap.get? b = some o ∧ ∀ v, o.data ≠ .cell v) : Inv X (pins ++ pinsAt fp s.heap) σ H s :=
  I.pins_of fun p hp => (List.mem_append.mp hp).elim (fun z => I.pin p (List.mem_append_right _ z)) fun z => by
    obtain ⟨hb, e⟩ := of_pinsAt z
    obtain ⟨f0, f1, f2, _⟩ := hf p.1 hb
    obtain ⟨o, e', d⟩ := ho p.1 hb
    rw [e] at e'; cases e'
    exact ⟨e, f0, f1, f2, d⟩
theorem Inv.unpinned {pins pl : List (Addr × Obj)} {σ : St} {H : Hp} {s : Shared} (I : Inv X (pins ++ pl) σ H s) : Inv X pins σ H s := I.pins_of fun p hp => I.pin p (List.mem_append_right _ (List.mem_append_left _ hp))
theorem ps_for {iter : Expr} {body : List Stmt} {wi : TI} {g : TG} {tb : TS} {pos : Pos} (hp : PassesOwn (model X.prog X.w) X.A X.env X.xe) (hc : X.calm = true) (hi : PI X tg iter wi) (hg : PG X tg g) (hb : PSs X body tb)
    (hs : ∀ x, foldedSetIterable iter X.env x = pure x := by intro _; rfl) : PS X (.For tg iter body [] pos) (tFor wi g tb) := by
  intro pins s σ H D I h
  refine wpAny_For (thn (hi pins s σ H _ I h) fun v s1 h1 => thn h1 fun itv s2 h2 => ?_) hs
  obtain ⟨it, fp, tn, J, H2, e, I2, T, st2, f2, W, ⟨m0, w0⟩, turn⟩ := h2
  subst e
  -- what stays true of the iterator's objects through the loop
  have stat : ∀ {H' : Hp}, (∀ b ∈ fp, H' b = none) → ∀ b ∈ fp, FpOk X pins H' b := fun hn b hb => ⟨hn b hb, (f2 b hb).2⟩
  refine codeAny_forLoop_any (fun n s' => ∃ i σ' H', Inv X pins σ' H' s' ∧ tn i s'.heap ∧ (∀ b ∈ fp, H' b = none) ∧ W i n σ' H') ?_ m0 ⟨0, σ, H2, I2, st2, fun b hb => (f2 b hb).1, w0⟩
  rintro n s3 ⟨i, σ3, H3, I3, st3, fr3, w3⟩
  rcases turn i n σ3 H3 w3 with ⟨stop, qn⟩ | ⟨go, N, hN, step⟩
  · refine wpAny_passesOwn hp (thn (T.done X rfl rfl rfl hc i pins s3 σ3 H3 X.xe I3 (stat fr3) st3 stop) fun r s4 ⟨hr, I4⟩ => ?_)
    subst hr
    exact wpAny_execs_nil ⟨σ3, H3, I4, qn⟩
  · refine wpAny_passesOwn hp (thn (T.item X rfl rfl rfl hc i pins s3 σ3 H3 X.xe I3 (stat fr3) st3 go) fun r s4 ⟨u, hr, h4⟩ => ?_)
    subst hr
    refine wpAny_passesOwn hp (thn h4 fun _ s5 ⟨x, H5, I5, r5, y5, st5, fr5⟩ => ?_)
    have I5' := I5.pinned (stat fr5) (T.obj _ _ st5)
    refine wpAny_passesOwn hp (thn (hg _ s5 σ3 H5 x u _ I5' r5 (step x H5 y5)) fun _ s6 ⟨σ6, H6, I6, q6⟩ => ?_)
    refine wpAny_passesOwn hp (thn (hb _ s6 σ6 H6 _ I6 q6) fun f s7 q7 => ?_)
    have again : ∀ {σ7 : St} {H7 : Hp}, Inv X (pins ++ pinsAt fp s5.heap) σ7 H7 s7 → N σ7 H7 → ∃ m, m < n ∧ ∃ i σ' H', Inv X pins σ' H' s7 ∧ tn i s7.heap ∧ (∀ b ∈ fp, H' b = none) ∧ W i m σ' H' := fun {σ7 H7} I7 n7 => by
      obtain ⟨m', hm, w7⟩ := hN σ7 H7 n7
      refine ⟨m', hm, i + 1, σ7, H7, I7.unpinned, T.keep _ _ _ st5 fun b hb o e => (I7.pin (b, o) (List.mem_append_right _ (List.mem_append_right _ (mem_pinsAt hb e)))).1, fun b hb => ?_, w7⟩
      obtain ⟨o, e, d⟩ := T.obj _ _ st5 b hb
      exact (I7.pin (b, o) (List.mem_append_right _ (List.mem_append_right _ (mem_pinsAt hb e)))).2.1
    cases f with
    | next => obtain ⟨σ7, H7, I7, n7⟩ := q7; exact again I7 n7
    | cont => obtain ⟨σ7, H7, I7, n7⟩ := q7; exact again I7 n7
    | brk => obtain ⟨σ7, H7, I7, q7⟩ := q7; exact ⟨σ7, H7, I7.unpinned, q7⟩
    | ret v => obtain ⟨x7, σ7, H7, I7, r7, q7⟩ := q7; exact ⟨x7, σ7, H7, I7.unpinned, r7, q7⟩
end

/-! ### the forms one uses -/
end L2

namespace L2
open PySem PySem.Spec PyProof.Rows

abbrev R2 := V → V → Hp → VK → Prop
/-- a two-place operation on values: f is binaryOp op, inplaceOp op or compareOp op -/
def OpR (X : Cx) (f : Value → Value → Sem Value) (r : R2) : Prop :=
  ∀ (pins : List (Addr × Obj)) (s : Shared) (σ : St) (H : Hp) (x y : V) (v u : Value) (Q : VK), Inv X pins σ H s → RelV x v → RelV y u → r x y H Q →
    wpAny (model X.prog X.w) X.A (f v u) (EP X pins σ Q) X.xe s
/-- a one-place operation -/
def UnR (X : Cx) (f : Value → Sem Value) (r : V → Hp → VK → Prop) : Prop :=
  ∀ (pins : List (Addr × Obj)) (s : Shared) (σ : St) (H : Hp) (x : V) (v : Value) (Q : VK), Inv X pins σ H s → RelV x v → r x H Q →
    wpAny (model X.prog X.w) X.A (f v) (EP X pins σ Q) X.xe s
/-- a call of a value that is known (a builtin, a type) with values -/
def CallR (X : Cx) (f : Value) (r : List V → Hp → VK → Prop) : Prop :=
  ∀ (pins : List (Addr × Obj)) (s : Shared) (σ : St) (H : Hp) (xs : List V) (us : List Value) (Q : VK), Inv X pins σ H s → Vals xs us → r xs H Q →
    wpAny (model X.prog X.w) X.A (call f us) (EP X pins σ Q) X.xe s
/-- a value's truth -/
def TruR (X : Cx) (r : V → Hp → (Bool → Hp → Prop) → Prop) : Prop :=
  ∀ (pins : List (Addr × Obj)) (s : Shared) (σ : St) (H : Hp) (x : V) (v : Value) (Q : Bool → Hp → Prop), Inv X pins σ H s → RelV x v → r x H Q →
    wpAny (model X.prog X.w) X.A (truthy v) (TP X pins σ Q) X.xe s

def tOp (r : R2) (ta tb : TE) : TE := fun σ H Q => ta σ H fun x H1 => tb σ H1 fun y H2 => r x y H2 Q
def tUn (r : V → Hp → VK → Prop) (ta : TE) : TE := fun σ H Q => ta σ H fun x H1 => r x H1 Q
/-- ints in, under C, and a value out -/
def rI (C : Int → Int → Prop) (g : Int → Int → V) : R2 := fun x y H Q => ∃ i j, x = .int i ∧ y = .int j ∧ C i j ∧ Q (g i j) H
def rI0 (g : Int → Int → V) : R2 := fun x y H Q => ∃ i j, x = .int i ∧ y = .int j ∧ Q (g i j) H
def rU (g : Int → V) : V → Hp → VK → Prop := fun x H Q => ∃ i, x = .int i ∧ Q (g i) H

section
variable {X : Cx} {a b c : Expr} {ta tb tc : TE} {pos : Pos}

theorem binT (ha : PE X a ta) (hb : PE X b tb) {pins : List (Addr × Obj)} {s : Shared} {σ : St} {H : Hp} {R : V → V → Hp → Prop} (I : Inv X pins σ H s)
    (h : ta σ H fun x H1 => tb σ H1 fun y H2 => R x y H2) {Q : Value → Shared → Prop} {f : Value → Value → Sem Value}
    (hf : ∀ v u s2 x y H2, Inv X pins σ H2 s2 → RelV x v → RelV y u → R x y H2 → wpAny (model X.prog X.w) X.A (f v u) Q X.xe s2) :
    wpAny (model X.prog X.w) X.A (eval a X.env) (fun v s₁ => wpAny (model X.prog X.w) X.A (eval b X.env) (fun u s₂ => wpAny (model X.prog X.w) X.A (f v u) Q X.xe s₂) X.xe s₁) X.xe s := by
  refine thn (ha pins s σ H _ I h) fun v s1 ⟨x, H1, I1, r1, q1⟩ => ?_
  refine thn (hb pins s1 σ H1 _ I1 q1) fun u s2 ⟨y, H2, I2, r2, q2⟩ => ?_
  exact hf v u s2 x y H2 I2 r1 r2 q2

theorem pe_op {op : Operator} {r : R2} (ho : OpR X (binaryOp op) r) (ha : PE X a ta) (hb : PE X b tb) : PE X (.BinOp a op b pos) (tOp r ta tb) := by
  intro pins s σ H Q I h
  exact wpAny_BinOp (binT ha hb I h fun v u s2 x y H2 I2 rx ry q => ho pins s2 σ H2 x y v u Q I2 rx ry q)
theorem pe_un {op : UnaryOp} {r : V → Hp → VK → Prop} (ho : UnR X (unaryOp op) r) (ha : PE X a ta) : PE X (.UnaryOp op a pos) (tUn r ta) := by
  intro pins s σ H Q I h
  exact UnaryOp_ (thn (ha pins s σ H _ I h) fun v s1 ⟨x, H1, I1, r1, q1⟩ => ho pins s1 σ H1 x v Q I1 r1 q1)
/-! ### ints -/
theorem opI {f : Value → Value → Sem Value} {C : Int → Int → Prop} {g : Int → Int → Int}
    (rule : ∀ (i j : Int) (t u : Tok) (s : Shared) (Q : Value → Shared → Prop) (E : Value → Shared → Prop), C i j → Q (.int (g i j) s.toks) { s with toks := s.toks + 1 } → wpAny (model X.prog X.w) X.A (f (.int i t) (.int j u)) Q E s) :
    OpR X f (rI C fun i j => .int (g i j)) := by
  intro pins s σ H x y v u Q I rx ry h
  obtain ⟨i, j, rfl, rfl, hc, q⟩ := h
  obtain ⟨t, rfl⟩ := rx
  obtain ⟨t', rfl⟩ := ry
  exact rule i j t t' s _ _ hc ⟨.int (g i j), H, I.tok _, ⟨_, rfl⟩, q⟩
theorem opI0 {f : Value → Value → Sem Value} {g : Int → Int → Int}
    (rule : ∀ (i j : Int) (t u : Tok) (s : Shared) (Q : Value → Shared → Prop) (E : Value → Shared → Prop), Q (.int (g i j) s.toks) { s with toks := s.toks + 1 } → wpAny (model X.prog X.w) X.A (f (.int i t) (.int j u)) Q E s) :
    OpR X f (rI0 fun i j => .int (g i j)) := by
  intro pins s σ H x y v u Q I rx ry h
  obtain ⟨i, j, rfl, rfl, q⟩ := h
  obtain ⟨t, rfl⟩ := rx
  obtain ⟨t', rfl⟩ := ry
  exact rule i j t t' s _ _ ⟨.int (g i j), H, I.tok _, ⟨_, rfl⟩, q⟩
theorem opB0 {f : Value → Value → Sem Value} {g : Int → Int → Bool}
    (rule : ∀ (i j : Int) (t u : Tok) (s : Shared) (Q : Value → Shared → Prop) (E : Value → Shared → Prop), Q (.bool (g i j)) s → wpAny (model X.prog X.w) X.A (f (.int i t) (.int j u)) Q E s) :
    OpR X f (rI0 fun i j => .bl (g i j)) := by
  intro pins s σ H x y v u Q I rx ry h
  obtain ⟨i, j, rfl, rfl, q⟩ := h
  obtain ⟨t, rfl⟩ := rx
  obtain ⟨t', rfl⟩ := ry
  exact rule i j t t' s _ _ ⟨.bl (g i j), H, I, rfl, q⟩

def CPow (i j : Int) : Prop := 0 ≤ j ∧ j ≤ 1000000 ∧ i.natAbs < 2 ^ 64
def CMul (i j : Int) : Prop := (-(2 ^ 64) < i ∧ i < 2 ^ 64) ∨ (-(2 ^ 64) < j ∧ j < 2 ^ 64)
theorem CMul.ok {i j : Int} (h : CMul i j) : IntMulOk i j := by
  rcases h with ⟨h1, h2⟩ | ⟨h1, h2⟩
  · exact .of_left (intBits_le_64 h1 h2)
  · exact .of_right (intBits_le_64 h1 h2)
theorem op_add : OpR X (binaryOp .Add) (rI0 fun i j => .int (i + j)) := opI0 fun _ _ _ _ _ _ _ q => add_int q
theorem op_sub : OpR X (binaryOp .Sub) (rI0 fun i j => .int (i - j)) := opI0 fun _ _ _ _ _ _ _ q => sub_int q
theorem op_modN : OpR X (binaryOp .Mod) (rI (fun _ j => j ≠ 0) fun i j => .int (i.fmod j)) := opI fun _ _ _ _ _ _ _ hc q => mod_int' hc q
theorem op_pow : OpR X (binaryOp .Pow) (rI CPow fun i j => .int (i ^ j.toNat)) := opI fun _ _ _ _ _ _ _ hc q => pow_int_small hc.1 hc.2.1 hc.2.2 q
theorem unI {f : Value → Sem Value} {g : Int → Int}
    (rule : ∀ (i : Int) (t : Tok) (s : Shared) (Q : Value → Shared → Prop) (E : Value → Shared → Prop), Q (.int (g i) s.toks) { s with toks := s.toks + 1 } → wpAny (model X.prog X.w) X.A (f (.int i t)) Q E s) :
    UnR X f (rU fun i => .int (g i)) := by
  intro pins s σ H x v Q I rx h
  obtain ⟨i, rfl, q⟩ := h
  obtain ⟨t, rfl⟩ := rx
  exact rule i t s _ _ ⟨.int (g i), H, I.tok _, ⟨_, rfl⟩, q⟩
theorem un_neg : UnR X (unaryOp .USub) (rU fun i => .int (-i)) := unI fun _ _ _ _ _ q => neg_int q
/-! ### bools among ints: n += (a < b) -/
end

/-! ### comparisons -/
/-- the scalars that == tells apart as data does -/
def scal : V → V → Bool
  | .non, .non => true | .non, .int _ => true | .int _, .non => true | .non, .bl _ => true | .bl _, .non => true | .non, .str _ => true | .str _, .non => true
  | .int _, .int _ => true | .bl _, .bl _ => true | .str _, .str _ => true | .byt _, .byt _ => true
  | .int _, .str _ => true | .str _, .int _ => true | .bl _, .str _ => true | .str _, .bl _ => true
  | _, _ => false
def rEq : R2 := fun x y H Q => scal x y = true ∧ Q (.bl (decide (x = y))) H
def rNe : R2 := fun x y H Q => scal x y = true ∧ Q (.bl (!decide (x = y))) H

theorem dec_int {i j : Int} : decide (V.int i = V.int j) = (i == j) := by
  rw [Bool.eq_iff_iff]
  simp
theorem dec_bl {i j : Bool} : decide (V.bl i = V.bl j) = (i == j) := by
  rw [Bool.eq_iff_iff]
  simp
theorem dec_str {i j : Str} : decide (V.str i = V.str j) = (i == j) := by
  rw [Bool.eq_iff_iff]
  simp
theorem dec_byt {i j : Array UInt8} : decide (V.byt i = V.byt j) = (i.toList == j.toList) := by
  rw [Bool.eq_iff_iff]
  cases i
  cases j
  simp

section
variable {X : Cx} {a b c : Expr} {ta tb tc : TE} {pos : Pos}
theorem fin_bl {pins : List (Addr × Obj)} {σ : St} {H : Hp} {s : Shared} {Q : VK} {k k' : Bool} (I : Inv X pins σ H s) (q : Q (.bl k) H) (e : k = k') : EP X pins σ Q (.bool k') s := by
  subst e
  exact ⟨.bl k, H, I, rfl, q⟩
theorem op_eq : OpR X (compareOp .Eq) rEq := by
  intro pins s σ H x y v u Q I rx ry h
  obtain ⟨hs, q⟩ := h
  cases x with
  | non =>
    cases rx
    cases y with
    | non => cases ry; exact PySem.EqNone.eq_none_none (fin_bl I q (by simp))
    | bl j => cases ry; exact PySem.EqNone.eq_none_bool (fin_bl I q (by simp))
    | int j => obtain ⟨t', rfl⟩ := ry; exact PySem.EqNone.eq_none_int (fin_bl I q (by simp))
    | str j => obtain ⟨t', rfl⟩ := ry; exact PySem.EqNone.eq_none_str (fin_bl I q (by simp))
    | _ => exact absurd (show false = true from hs) Bool.false_ne_true
  | bl i =>
    cases rx
    cases y with
    | non => cases ry; exact PySem.EqNone.eq_bool_none (fin_bl I q (by simp))
    | bl j => cases ry; exact eq_bool (fin_bl I q dec_bl)
    | str j => obtain ⟨t', rfl⟩ := ry; exact PySem.EqMixed.eq_bool_str (fin_bl I q (by simp))
    | _ => exact absurd (show false = true from hs) Bool.false_ne_true
  | int i =>
    obtain ⟨t, rfl⟩ := rx
    cases y with
    | non => cases ry; exact PySem.EqNone.eq_int_none (fin_bl I q (by simp))
    | int j => obtain ⟨t', rfl⟩ := ry; exact eq_int (fin_bl I q dec_int)
    | str j => obtain ⟨t', rfl⟩ := ry; exact PySem.EqMixed.eq_int_str (fin_bl I q (by simp))
    | _ => exact absurd (show false = true from hs) Bool.false_ne_true
  | str i =>
    obtain ⟨t, rfl⟩ := rx
    cases y with
    | non => cases ry; exact PySem.EqNone.eq_str_none (fin_bl I q (by simp))
    | bl j => cases ry; exact PySem.EqMixed.eq_str_bool (fin_bl I q (by simp))
    | int j => obtain ⟨t', rfl⟩ := ry; exact PySem.EqMixed.eq_str_int (fin_bl I q (by simp))
    | str j => obtain ⟨t', rfl⟩ := ry; exact eq_str (fin_bl I q dec_str)
    | _ => exact absurd (show false = true from hs) Bool.false_ne_true
  | byt i =>
    obtain ⟨t, rfl⟩ := rx
    cases y with
    | byt j => obtain ⟨t', rfl⟩ := ry; exact PySem.W.eq_bytes (fin_bl I q dec_byt)
    | _ => exact absurd (show false = true from hs) Bool.false_ne_true
  | _ => cases y <;> exact absurd (show false = true from hs) Bool.false_ne_true
theorem op_ne : OpR X (compareOp .NotEq) rNe := by
  intro pins s σ H x y v u Q I rx ry h
  obtain ⟨hs, q⟩ := h
  cases x with
  | non =>
    cases rx
    cases y with
    | non => cases ry; exact PySem.EqNone.ne_none_none (fin_bl I q (by simp))
    | bl j => cases ry; exact PySem.EqNone.ne_none_bool (fin_bl I q (by simp))
    | int j => obtain ⟨t', rfl⟩ := ry; exact PySem.EqNone.ne_none_int (fin_bl I q (by simp))
    | str j => obtain ⟨t', rfl⟩ := ry; exact PySem.EqNone.ne_none_str (fin_bl I q (by simp))
    | _ => exact absurd (show false = true from hs) Bool.false_ne_true
  | bl i =>
    cases rx
    cases y with
    | non => cases ry; exact PySem.EqNone.ne_bool_none (fin_bl I q (by simp))
    | bl j => cases ry; exact ne_bool (fin_bl I q (congrArg not dec_bl))
    | str j => obtain ⟨t', rfl⟩ := ry; exact PySem.EqMixed.ne_bool_str (fin_bl I q (by simp))
    | _ => exact absurd (show false = true from hs) Bool.false_ne_true
  | int i =>
    obtain ⟨t, rfl⟩ := rx
    cases y with
    | non => cases ry; exact PySem.EqNone.ne_int_none (fin_bl I q (by simp))
    | int j => obtain ⟨t', rfl⟩ := ry; exact ne_int (fin_bl I q (congrArg not dec_int))
    | str j => obtain ⟨t', rfl⟩ := ry; exact PySem.EqMixed.ne_int_str (fin_bl I q (by simp))
    | _ => exact absurd (show false = true from hs) Bool.false_ne_true
  | str i =>
    obtain ⟨t, rfl⟩ := rx
    cases y with
    | non => cases ry; exact PySem.EqNone.ne_str_none (fin_bl I q (by simp))
    | bl j => cases ry; exact PySem.EqMixed.ne_str_bool (fin_bl I q (by simp))
    | int j => obtain ⟨t', rfl⟩ := ry; exact PySem.EqMixed.ne_str_int (fin_bl I q (by simp))
    | str j => obtain ⟨t', rfl⟩ := ry; exact ne_str (fin_bl I q (congrArg not dec_str))
    | _ => exact absurd (show false = true from hs) Bool.false_ne_true
  | byt i =>
    obtain ⟨t, rfl⟩ := rx
    cases y with
    | byt j => obtain ⟨t', rfl⟩ := ry; exact PySem.W.ne_bytes (fin_bl I q (congrArg not dec_byt))
    | _ => exact absurd (show false = true from hs) Bool.false_ne_true
  | _ => cases y <;> exact absurd (show false = true from hs) Bool.false_ne_true

theorem op_lt : OpR X (compareOp .Lt) (rI0 fun i j => .bl (decide (i < j))) := opB0 fun _ _ _ _ _ _ _ q => lt_int q
theorem op_gt : OpR X (compareOp .Gt) (rI0 fun i j => .bl (decide (j < i))) := opB0 fun _ _ _ _ _ _ _ q => gt_int q
theorem op_ge : OpR X (compareOp .GtE) (rI0 fun i j => .bl (decide (j ≤ i))) := opB0 fun _ _ _ _ _ _ _ q => ge_int q
/-- is None, is not None: the right side a value none -/
theorem op_isN : OpR X (compareOp .Is) (fun x y H Q => y = .non ∧ Q (.bl (decide (x = .non))) H) := by
  intro pins s σ H x y v u Q I rx ry h
  obtain ⟨rfl, q⟩ := h
  cases ry
  refine is_none_gen (fin_bl I q ?_)
  cases x <;> first
    | (cases rx; rfl)
    | (obtain ⟨t, rfl⟩ := rx; rfl)
/-- two rules for one operation: by cases -/
theorem OpR.or {f : Value → Value → Sem Value} {r r' : R2} (h : OpR X f r) (h' : OpR X f r') : OpR X f (fun x y H Q => r x y H Q ∨ r' x y H Q) := by
  intro pins s σ H x y v u Q I rx ry q
  rcases q with q | q
  · exact h pins s σ H x y v u Q I rx ry q
  · exact h' pins s σ H x y v u Q I rx ry q

theorem nomark (b : Expr) {op : CmpOp} (h : op ≠ .In := by decide) (h2 : op ≠ .NotIn := by decide) : behindInMarks op b = false := by
  have e1 : (op == CmpOp.In) = false := by cases op <;> first | rfl | exact absurd rfl h
  have e2 : (op == CmpOp.NotIn) = false := by cases op <;> first | rfl | exact absurd rfl h2
  cases b <;> simp [behindInMarks, e1, e2]
/-- a comparison as a value; hm: nomark b, or (for in, not in) by with_unfolding_all rfl -/
theorem pe_cmpR {op : CmpOp} {r : R2} (ho : OpR X (compareOp op) r) (ha : PE X a ta) (hb : PE X b tb) (hm : behindInMarks op b = false) : PE X (.Compare a [op] [b] pos) (tOp r ta tb) := by
  intro pins s σ H Q I h
  exact wpAny_Compare1 (binT ha hb I h fun v u s2 x y H2 I2 rx ry q => ho pins s2 σ H2 x y v u Q I2 rx ry q) hm
/-- a reading of a value as a test -/
def tTest (t : TE) : TT := fun σ H Q => t σ H fun x H' => ∃ k, x = .bl k ∧ Q k H'
theorem pt_cmpR {op : CmpOp} {r : R2} (ho : OpR X (compareOp op) r) (ha : PE X a ta) (hb : PE X b tb) (hm : behindInMarks op b = false) : PT X (.Compare a [op] [b] pos) (tTest (tOp r ta tb)) := by
  intro pins s σ H Q I h
  refine wpAny_isTrue_Compare1 (thn (ha pins s σ H _ I h) fun v s1 ⟨x, H1, I1, r1, q1⟩ => thn (hb pins s1 σ H1 _ I1 q1) fun u s2 ⟨y, H2, I2, r2, q2⟩ =>
    thn (ho pins s2 σ H2 x y v u _ I2 r1 r2 q2) fun c s3 ⟨z, H3, I3, r3, k, e, q3⟩ => ?_) hm
  subst e
  cases r3
  exact wpAny_truthy_bool ⟨H3, I3, q3⟩
/-- a op1 b op2 c -/
def tChain (r r' : R2) (ta tb tc : TE) : TE := fun σ H Q => ta σ H fun x H1 => tb σ H1 fun y H2 => r x y H2 fun z H3 => ∃ k, z = .bl k ∧
  (if k = true then tc σ H3 fun w' H4 => r' y w' H4 Q else Q (.bl false) H3)
theorem pt_chain {op op' : CmpOp} {r r' : R2} (ho : OpR X (compareOp op) r) (ho' : OpR X (compareOp op') r') (ha : PE X a ta) (hb : PE X b tb) (hc : PE X c tc)
    (hm : lastMarks [op, op'] [b, c] = false := by with_unfolding_all rfl) : PT X (.Compare a [op, op'] [b, c] pos) (tTest (tChain r r' ta tb tc)) := by
  intro pins s σ H Q I h
  refine isTrue_chain (thn (ha pins s σ H _ I h) fun v s1 ⟨x, H1, I1, r1, q1⟩ => test_link (thn (hb pins s1 σ H1 _ I1 q1) fun u s2 ⟨y, H2, I2, r2, q2⟩ =>
    thn (ho pins s2 σ H2 x y v u _ I2 r1 r2 q2) fun d s3 ⟨z, H3, I3, r3, k, e, q3⟩ => ?_)) hm
  subst e
  cases r3
  refine wpAny_truthy_bool ?_
  cases k with
  | false =>
    obtain ⟨k', e', q'⟩ := q3
    cases e'
    exact ite_ff ⟨H3, I3, q'⟩
  | true =>
    refine ite_tt (test_last (thn (hc pins s3 σ H3 _ I3 q3) fun w' s4 ⟨z', H4, I4, r4, q4⟩ => thn (ho' pins s4 σ H4 y z' u w' _ I4 r2 r4 q4) fun d' s5 ⟨z2, H5, I5, r5, k2, e2, q5⟩ => ?_))
    subst e2
    cases r5
    exact wpAny_truthy_bool ⟨H5, I5, q5⟩

/-! ### truth -/
/-- a value's truth by the abstract heap -/
def TruV (K : PySem.W.Frag) (x : V) (H : Hp) (k : Bool) : Prop :=
  match x with
  | .non => k = false
  | .bl b => k = b
  | .int i => k = (i != 0)
  | .str y => y.length ≤ sizeLine ∧ k = ((y.length : Int) != 0)
  | .byt y => y.size ≤ sizeLine ∧ k = ((y.size : Int) != 0)
  | .ref p => (∃ xs, SqL K H p xs ∧ k = !xs.isEmpty) ∨ (∃ xs, SqT K H p xs ∧ k = !xs.isEmpty) ∨ ∃ kvs, H p = some (.dK kvs) ∧ k = !kvs.isEmpty
  | _ => False
theorem isEmpty_kv {κ : Type} {kvs : List (κ × V)} {vs : List (κ × Value)} (r : KV kvs vs) : (!vs.isEmpty) = !kvs.isEmpty := by
  cases r <;> rfl
theorem isEmpty_of {xs : List V} {its : List Value} (r : Vals xs its) : (!its.toArray.isEmpty) = !xs.isEmpty := by
  cases r <;> simp
theorem line63 : (sizeLine : Nat) < 2 ^ 63 := by rw [sizeLine_eq]; decide
theorem tru_ok : TruR X (fun x H Q => ∃ k, TruV X.K x H k ∧ Q k H) := by
  intro pins s σ H x v Q I rx h
  obtain ⟨k, e, q⟩ := h
  have hl := line63
  have hs : sizeLine = 16777216 := sizeLine_eq
  cases x with
  | non =>
    cases rx
    have e' : k = false := e
    subst e'
    exact truthy_none ⟨H, I, q⟩
  | bl b =>
    cases rx
    have e' : k = b := e
    subst e'
    exact wpAny_truthy_bool ⟨H, I, q⟩
  | int i =>
    obtain ⟨t, rfl⟩ := rx
    have e' : k = (i != 0) := e
    subst e'
    exact PySem.P.truthy_int ⟨H, I, q⟩
  | str y =>
    obtain ⟨t, rfl⟩ := rx
    obtain ⟨hy, e'⟩ : y.length ≤ sizeLine ∧ k = ((y.length : Int) != 0) := e
    subst e'
    exact PySem.P.truthy_str (by omega) ⟨H, I.tok _, q⟩
  | byt y =>
    obtain ⟨t, rfl⟩ := rx
    obtain ⟨hy, e'⟩ : y.size ≤ sizeLine ∧ k = ((y.size : Int) != 0) := e
    subst e'
    exact PySem.W.truthy_bytes (by omega) ⟨H, I.tok _, q⟩
  | ref p =>
    cases rx
    have e' : (∃ xs, SqL X.K H p xs ∧ k = !xs.isEmpty) ∨ (∃ xs, SqT X.K H p xs ∧ k = !xs.isEmpty) ∨ ∃ kvs, H p = some (.dK kvs) ∧ k = !kvs.isEmpty := e
    rcases e' with ⟨xs, hx, e'⟩ | ⟨xs, hx, e'⟩ | ⟨kvs, hx, e'⟩
    · subst e'
      obtain ⟨its, r, pl, hz⟩ := I.list hx
      have hlen := r.length
      exact wpAny_truthy_list pl.isList (by simp only [List.size_toArray]; omega) ⟨H, I.tok _, by rw [isEmpty_of r]; exact q⟩
    · subst e'
      obtain ⟨its, r, pl, hz⟩ := I.tuple hx
      have hlen := r.length
      exact truthy_tuple pl (by simp only [List.size_toArray]; omega) ⟨H, I.tok _, by rw [isEmpty_of r]; exact q⟩
    · subst e'
      obtain ⟨hz, hS, vs, r, m⟩ : kvs.length ≤ sizeLine ∧ (p == sysModules) = false ∧ ∃ vs, KV kvs vs ∧ s.heap.DictOf (mixKind X.prog X.w) p vs := I.hok p _ hx
      have hlen : kvs.length = vs.length := Paired.length r
      exact wpAny_truthy_dict hS m (by omega) ⟨H, I.tok _, by rw [isEmpty_kv r]; exact q⟩
  | _ => exact (show False from e).elim
/-- any expression whose test is its value's truth (a name, a call, a subscript, a field ..: he by fun _ => rfl) -/
theorem pt_truth (ha : PE X a ta) (he : ∀ whole, isTrue a X.env whole = (do let v ← whole; standAt a.pos; holding [v] (truthy v))) :
    PT X a (fun σ H Q => ta σ H fun x H' => ∃ k, TruV X.K x H' k ∧ Q k H') := by
  intro pins s σ H Q I h
  exact isTrue_plain (thn (ha pins s σ H _ I h) fun v s1 ⟨x, H1, I1, r1, q1⟩ => tru_ok pins s1 σ H1 x v Q I1 r1 q1) (he _)

/-! ### strs and bytes -/
theorem op_add_str : OpR X (binaryOp .Add) (fun x y H Q => ∃ i j, x = .str i ∧ y = .str j ∧ i.length + j.length ≤ sizeLine ∧ Q (.str (i ++ j)) H) := by
  intro pins s σ H x y v u Q I rx ry h
  obtain ⟨i, j, rfl, rfl, hz, q⟩ := h
  obtain ⟨t, rfl⟩ := rx
  obtain ⟨t', rfl⟩ := ry
  exact add_str (fun t' tk => ⟨.str (i ++ j), H, I.tok _, ⟨_, rfl⟩, q⟩) hz
/-! ### scalar builtins, by CallR -/
theorem vals1 {x : V} {us : List Value} (r : Vals [x] us) : ∃ u, us = [u] ∧ RelV x u := by
  cases r with
  | cons r1 r2 => cases r2; exact ⟨_, rfl, r1⟩
theorem vals2 {x y : V} {us : List Value} (r : Vals [x, y] us) : ∃ u w', us = [u, w'] ∧ RelV x u ∧ RelV y w' := by
  cases r with
  | cons r1 r2 =>
    cases r2 with
    | cons r3 r4 => cases r4; exact ⟨_, _, rfl, r1, r3⟩
theorem call_max2 (hc : X.calm = true) : CallR X (.builtin "max") (fun xs H Q => ∃ i j, xs = [.int i, .int j] ∧ Q (.int (if j > i then j else i)) H) := by
  intro pins s σ H xs us Q I r h
  obtain ⟨i, j, rfl, q⟩ := h
  obtain ⟨u, w', rfl, ⟨t, rfl⟩, ⟨t', rfl⟩⟩ := vals2 r
  refine max_two_ints (I.ok.hd hc) fun h' tk k => ⟨_, H, I.kept k, ?_, q⟩
  by_cases hj : j > i
  · rw [if_pos hj, if_pos hj]; exact ⟨_, rfl⟩
  · rw [if_neg hj, if_neg hj]; exact ⟨_, rfl⟩
theorem call_min2 (hc : X.calm = true) : CallR X (.builtin "min") (fun xs H Q => ∃ i j, xs = [.int i, .int j] ∧ Q (.int (if j < i then j else i)) H) := by
  intro pins s σ H xs us Q I r h
  obtain ⟨i, j, rfl, q⟩ := h
  obtain ⟨u, w', rfl, ⟨t, rfl⟩, ⟨t', rfl⟩⟩ := vals2 r
  refine min_two_ints (I.ok.hd hc) fun h' tk k => ⟨_, H, I.kept k, ?_, q⟩
  by_cases hj : j < i
  · rw [if_pos hj, if_pos hj]; exact ⟨_, rfl⟩
  · rw [if_neg hj, if_neg hj]; exact ⟨_, rfl⟩
theorem call_str_int : CallR X (.type "str") (fun xs H Q => ∃ i, xs = [.int i] ∧ i.natAbs.log2 < 1920 ∧ Q (.str (toString i)) H) := by
  intro pins s σ H xs us Q I r h
  obtain ⟨i, rfl, hz, q⟩ := h
  obtain ⟨u, rfl, t, rfl⟩ := vals1 r
  exact PySem.P.str_of_int hz ⟨.str _, H, I.tok _, ⟨_, rfl⟩, q⟩
/-- len of a str, a bytes, a list, a tuple -/
def LenV (K : PySem.W.Frag) (x : V) (H : Hp) (n : Nat) : Prop :=
  match x with
  | .str y => y.length ≤ sizeLine ∧ n = y.length
  | .byt y => y.size ≤ sizeLine ∧ n = y.size
  | .ref p => (∃ xs, SqL K H p xs ∧ n = xs.length) ∨ ∃ xs, SqT K H p xs ∧ n = xs.length
  | _ => False
theorem call_len : CallR X (.builtin "len") (fun xs H Q => ∃ x n, xs = [x] ∧ LenV X.K x H n ∧ Q (.int n) H) := by
  intro pins s σ H xs us Q I r h
  obtain ⟨x, n, rfl, e, q⟩ := h
  obtain ⟨u, rfl, rx⟩ := vals1 r
  have hl := line63
  have hs : sizeLine = 16777216 := sizeLine_eq
  cases x with
  | str y =>
    obtain ⟨t, rfl⟩ := rx
    obtain ⟨hy, e'⟩ : y.length ≤ sizeLine ∧ n = y.length := e
    subst e'
    exact len_str (by omega) ⟨.int _, H, I.tok _, ⟨_, rfl⟩, q⟩
  | byt y =>
    obtain ⟨t, rfl⟩ := rx
    obtain ⟨hy, e'⟩ : y.size ≤ sizeLine ∧ n = y.size := e
    subst e'
    exact PySem.W.len_bytes (by omega) ⟨.int _, H, I.tok _, ⟨_, rfl⟩, q⟩
  | ref p =>
    cases rx
    have e' : (∃ xs, SqL X.K H p xs ∧ n = xs.length) ∨ ∃ xs, SqT X.K H p xs ∧ n = xs.length := e
    rcases e' with ⟨xs, hx, e'⟩ | ⟨xs, hx, e'⟩
    · subst e'
      obtain ⟨its, r', pl, hz⟩ := I.list hx
      have hlen := r'.length
      exact Calls.call_len_list pl.isList (by simp only [List.size_toArray]; omega) ⟨.int xs.length, H, I.tok _, ⟨_, by simp only [List.size_toArray]; rw [hlen]⟩, q⟩
    · subst e'
      obtain ⟨its, r', pl, hz⟩ := I.tuple hx
      have hlen := r'.length
      exact len_tuple pl (by simp only [List.size_toArray]; omega) ⟨.int xs.length, H, I.tok _, ⟨_, by simp only [List.size_toArray]; rw [hlen]⟩, q⟩
  | _ => exact (show False from e).elim
end
end L2

namespace L2
open PySem PySem.Spec PyProof.Rows

/-! ### an instance, its attributes a map -/
structure ObjM (h : Heap) (x dx C : Addr) (mA : Str → Option Value) : Prop where
  obj : h.get? x = some (PySem.W.instObj C dx)
  ns : h.Ns1 dx mA
  ne : dx ≠ x

theorem lookIn_ns {h : Heap} {dx : Addr} {mA : Str → Option Value} (n : h.Ns1 dx mA) : ∃ od, h.get? dx = some od ∧ ∀ name, PySem.W.lookIn name od = some (mA name) := by
  obtain ⟨o, es, ep, ho, hd, hk, _, hm⟩ := n
  refine ⟨o, ho, fun name => ?_⟩
  have e := hm name
  unfold nsFind findBy at e
  rw [← Array.find?_toList] at e
  unfold PySem.W.lookIn
  rw [hd]
  dsimp only
  split
  · rename_i y q
    rw [q] at e
    exact congrArg some e
  · rename_i q
    rw [q] at e
    have a : es.toList.any (·.refKey) = false := by
      rw [List.any_eq_false]
      intro y hy
      obtain ⟨z, t, hkey⟩ := hk y (Array.mem_toList_iff.mp hy)
      simp [DictEntry.refKey, hkey]
    have a' : ¬ es.toList.any (·.refKey) = true := by rw [a]; exact Bool.false_ne_true
    rw [if_neg a']
    exact congrArg some e

theorem ObjM.look {h : Heap} {x dx C : Addr} {mA : Str → Option Value} (I : ObjM h x dx C mA) : ∃ od, PySem.W.InstAt h x (PySem.W.instObj C dx) C (some od) ∧ ∀ name, PySem.W.lookIn name od = some (mA name) :=
  let ⟨od, ho, hl⟩ := lookIn_ns I.ns
  ⟨od, ⟨I.obj, rfl, rfl, ho⟩, hl⟩

section
variable {prog : Program} {w : World} {A : Around} {E : Value → Shared → Prop} {s : Shared} {K : PySem.W.Frag} {x dx C f : Addr} {mA : Str → Option Value} {name : Str} {v : Value}

end

/-! ### the attributes as a list of pairs -/
section
variable {P : Program} {w : World} {H H' : Hp} {h h' : Heap} {a C dx : Addr} {fs fs' : List (Str × V)}
end

/-! ### what of the text a class must have -/
structure Cls (K : PySem.W.Frag) (C : Addr) : Prop where
  pg : PySem.W.plainGet K C Str.empty = true
  hd : PySem.W.hasDictIn K C = true
  po : PySem.W.plainOver K C = true
  sa : PySem.W.findIn K (.ref C) "__setattr__" = some (some (.builtin "object.__setattr__"))
theorem Cls.get {K : PySem.W.Frag} {C : Addr} (c : Cls K C) (f : Str) : PySem.W.plainGet K C f = true := c.pg
/-- a constant of the class -/
structure Con (K : PySem.W.Frag) (C : Addr) (f : Str) (v : V) (u : Value) : Prop where
  at_ : PySem.W.findIn K (.ref C) f = some (some u)
  rel : RelV v u
  get : PySem.W.specialIn K u "__get__" = some none
  cp : PySem.W.copiedNames.contains f = false
/-- a method: a plain def of the class or of one above it -/
structure Meth (K : PySem.W.Frag) (C : Addr) (m : Str) (f : Addr) : Prop where
  at_ : PySem.W.findIn K (.ref C) m = some (some (.ref f))
  fn : PySem.W.isFn K (.ref f) = true
  kp : PySem.W.keepIn K (.ref f) = true

section
variable {X : Cx} {pins : List (Addr × Obj)} {σ : St} {H : Hp} {s : Shared} {a C dx : Addr} {fs : List (Str × V)} {f : Str} {v : V} {A : Around} {E : Value → Shared → Prop}

end

/-! ### readings and rules -/
section
variable {X : Cx} {o e value : Expr} {f : Str} {pos pos' tpos : Pos} {ta tv : TE}
end

/-! ### isinstance -/
section
variable {X : Cx} {pins : List (Addr × Obj)} {σ : St} {H : Hp} {s : Shared} {A : Around} {E : Value → Shared → Prop} {Q : Value → Shared → Prop} {c : Value} {b : Bool}
/-- the type of a value, as the fragment's deciders take it; for an instance its class -/
inductive TyOf (K : PySem.W.Frag) (H : Hp) : V → Value → Prop where
  | non : TyOf K H .non (.type "NoneType")
  | bl (x : Bool) : TyOf K H (.bl x) (.type "bool")
  | int (i : Int) : TyOf K H (.int i) (.type "int")
  | str (x : Str) : TyOf K H (.str x) (.type "str")
  | flt (x : UInt64) : TyOf K H (.flt x) (.type "float")
  | lst {a : Addr} {xs : List V} (e : H a = some (.lst xs)) : TyOf K H (.ref a) (.type "list")
  | frz {a : Addr} {o : Obj} {xs : List V} (e : H a = some (.frz o (.lst xs))) : TyOf K H (.ref a) (.type "list")
  | tup {a : Addr} {xs : List V} (e : H a = some (.tup xs)) : TyOf K H (.ref a) (.type "tuple")
  | dK {a : Addr} {kvs : List (Key × V)} (e : H a = some (.dK kvs)) : TyOf K H (.ref a) (.type "dict")
  | dT {a : Addr} {kvs : List (List Key × V)} (e : H a = some (.dT kvs)) : TyOf K H (.ref a) (.type "dict")
  | ins {a C dx : Addr} {fs : List (Str × V)} (e : H a = some (.ins C dx fs)) (cl : Cls K C) (ha : PySem.W.findIn K (.ref C) "__class__" = some (some (.builtin "object.__class__")))
      (hn : PySem.W.specialIn K (.builtin "object.__class__") "__get__" = some (some (.builtin "getset_descriptor.__get__"))) (htk : PySem.W.takesIn K (.builtin "object.__class__") = some true)
      (hm : PySem.W.mroIn K C (.type "object") = some true) : TyOf K H (.ref a) (.ref C)
end
end L2

namespace L2
open PySem PySem.Spec PyProof.Rows

/-! ### room -/
structure Room (k : Nat) (A : Around) : Prop where
  hd : A.handled = none
  dp : A.depth + 3 * k + 5 < recursionLimit
  un : A.units + 16 * k + 200 < cLine
  gd : A.guards = some []
theorem Room.mono {j k : Nat} {A : Around} (r : Room k A) (h : j ≤ k) : Room j A := ⟨r.hd, by have := r.dp; omega, by have := r.un; omega, r.gd⟩
theorem Room.deeper {k : Nat} {A : Around} (r : Room (k + 1) A) (env : Env) : Room k (A.deeper env) :=
  ⟨r.hd, by have := r.dp; show A.depth + 1 + 3 * k + 5 < _; omega, by have := r.un; show A.units + 3 + 16 * k + 200 < _; omega, r.gd⟩
theorem Room.in1 {k : Nat} {A : Around} (r : Room (k + 1) A) : Room k A.in1 :=
  ⟨r.hd, by have := r.dp; show A.depth + 3 * k + 5 < _; omega, by have := r.un; show A.units + 1 + 16 * k + 200 < _; omega, r.gd⟩
theorem Room.depth {k : Nat} {A : Around} (r : Room k A) : A.depth < recursionLimit := by have := r.dp; omega
theorem Room.units {k : Nat} {A : Around} (r : Room k A) : A.units + 64 < cLine := by have := r.un; omega
/-! ### argument lists and displays -/
def tNil : TA := fun _ H Q => Q [] H
def tCons (ta : TE) (tr : TA) : TA := fun σ H Q => ta σ H fun x H1 => tr σ H1 fun xs H2 => Q (x :: xs) H2
section
variable {X : Cx} {e : Expr} {es : List Expr} {te : TE} {t : TA} {pos : Pos}
theorem pa_nil : PA X [] tNil := fun _ _ _ _ H Q I h => Calls.spliced_nil ⟨[], H, I, .nil, h⟩
theorem pa_cons (ha : PE X e te) (hr : PA X es t) (hs : starEach (e :: es) X.env = (false, eval e X.env) :: starEach es X.env := by rfl) : PA X (e :: es) (tCons te t) := by
  intro pos pins s σ H Q I h
  rw [hs]
  show wpAny _ _ (spliced ((false, eval e X.env) :: backTo pos (starEach es X.env))) _ _ s
  refine Calls.spliced_cons (thn (ha pins s σ H _ I h) fun u s1 ⟨x, H1, I1, r1, q1⟩ => ?_)
  exact thn (hr pos pins s1 σ H1 _ I1 q1) fun us s2 ⟨xs, H2, I2, r2, q2⟩ => ⟨x :: xs, H2, I2, .cons r1 r2, q2⟩

/-- a tuple, a list of written items -/
def tTup (t : TA) : TE := fun σ H Q => t σ H fun xs H1 => xs.length ≤ sizeLine ∧ ∀ p, H1 p = none → Q (.ref p) (upd H1 p (.tup xs))
def tLst (t : TA) : TE := fun σ H Q => t σ H fun xs H1 => xs.length ≤ sizeLine ∧ ∀ p, H1 p = none → Q (.ref p) (upd H1 p (.lst xs))
theorem pe_tup {x1} (h : PA X es t) : PE X (.Tuple es x1 pos) (tTup t) := by
  intro pins s σ H Q I hq
  refine wpAny_Tuple_spliced (thn (h pos pins s σ H _ I hq) fun us s1 ⟨xs, H1, I1, r, z, q⟩ => ⟨by rw [← r.length]; exact z, ?_⟩)
  have hf : H1 s1.heap.objs.size = none := I1.hok.fresh (Nat.le_refl _)
  refine ⟨.ref s1.heap.objs.size, upd H1 s1.heap.objs.size (.tup xs), I1.laid (t' := s1.toks) (fun b u e => Heap.get?_push_of_some _ e) (Nat.le_refl _) ?_, rfl, q _ hf⟩
  exact ⟨z, us, r, ⟨_, Heap.get?_push_size _ rfl, rfl, _, rfl⟩⟩
theorem pe_lst (h : PA X es t) : PE X (.List es pos) (tLst t) := by
  intro pins s σ H Q I hq
  refine wpAny_List_spliced (thn (h pos pins s σ H _ I hq) fun us s1 ⟨xs, H1, I1, r, z, q⟩ => ⟨by rw [← r.length]; exact z, ?_⟩)
  have hf : H1 s1.heap.objs.size = none := I1.hok.fresh (Nat.le_refl _)
  refine ⟨.ref s1.heap.objs.size, upd H1 s1.heap.objs.size (.lst xs), I1.laid (t' := s1.toks) (fun b u e => Heap.get?_push_of_some _ e) (Nat.le_refl _) ?_, rfl, q _ hf⟩
  exact ⟨z, us, 0, r, Heap.get?_push_size _ rfl⟩
end

/-! ### what a def promises -/
/-- a def's promise: the bound arguments in the parameters' order, the heap, the wanted end, the wanted exception -/
abbrev Sp := List V → Hp → VK → XK → Prop
/-- how an exception lies behind a call (file 08 gives it): the callers' frames, abstract heap and state ahead of the call, the wish, the exception, the state -/
abbrev CXT := List Env → Hp → Shared → XK → Value → Shared → Prop

/-- the state at a call -/
structure Env0 (P : Program) (w : World) (K : PySem.W.Frag) (mg : Str → Option Value) (base : Heap) (A : Around) (outer : List Env) (s : Shared) (H : Hp) : Prop where
  frames : A.frames = some outer
  mod : Mod K mg base
  bs : ∀ b o, base.get? b = some o → s.heap.get? b = some o ∧ H b = none
  bsz : base.objs.size ≤ s.heap.objs.size
  funs : s.heap.FunFrames base outer
  frf : ∀ b ∈ frs outer, H b = none
  hok : HOk P w H s.heap
  bare : AllBare s.gens
/-- a call's end -/
def CE (outer : List Env) (P : Program) (w : World) (H : Hp) (s : Shared) (Q : VK) (u : Value) (s' : Shared) : Prop :=
  ∃ v H', s'.os = s.os ∧ GP s.gens s'.gens ∧ Un (frs outer) [] H H' s.heap s'.heap ∧ HOk P w H' s'.heap ∧ RelV v u ∧ Q v H'
def CR (CX : CXT) (outer : List Env) (P : Program) (w : World) (H : Hp) (s : Shared) (Q : VK) (E : XK) (r : Result) (s' : Shared) : Prop :=
  match r with
  | .ok (.ret u) => CE outer P w H s Q u s'
  | .ok _ => False
  | .error e => CX outer H s E e s'
structure FnOk (P : Program) (w : World) (K : PySem.W.Frag) (mg : Str → Option Value) (base : Heap) (CX : CXT) (k : Nat) (f : Addr) (fd : FuncData) (ps : List Str) (sp : Sp) : Prop where
  len : ∀ vs H Q E, sp vs H Q E → vs.length = ps.length
  run : ∀ (A : Around) (outer : List Env) (s : Shared) (H : Hp) (args : Args) (us : List Value) (vs : List V) (Q : VK) (E : XK), Room k A → Env0 P w K mg base A outer s H → BindsTo s fd args (ps.zip us) → Vals vs us → sp vs H Q E →
    codeAny (model P w) A (.call (.ref f) args) (CR CX outer P w H s Q E) s
theorem FnOk.mono {P : Program} {w : World} {K : PySem.W.Frag} {mg : Str → Option Value} {base : Heap} {CX : CXT} {j k : Nat} {f : Addr} {fd : FuncData} {ps : List Str} {sp : Sp} (F : FnOk P w K mg base CX j f fd ps sp) (h : j ≤ k) :
    FnOk P w K mg base CX k f fd ps sp := ⟨F.len, fun A outer s H args us vs Q E hr => F.run A outer s H args us vs Q E (hr.mono h)⟩
/-- a weaker promise -/
theorem FnOk.imp {P : Program} {w : World} {K : PySem.W.Frag} {mg : Str → Option Value} {base : Heap} {CX : CXT} {k : Nat} {f : Addr} {fd : FuncData} {ps : List Str} {sp sp' : Sp} (F : FnOk P w K mg base CX k f fd ps sp)
    (h : ∀ vs H Q E, sp' vs H Q E → sp vs H Q E) : FnOk P w K mg base CX k f fd ps sp' :=
  ⟨fun vs H Q E q => F.len vs H Q E (h _ _ _ _ q), fun A outer s H args us vs Q E hr he hb hv hs => F.run A outer s H args us vs Q E hr he hb hv (h _ _ _ _ hs)⟩

theorem Env0.in1 {P : Program} {w : World} {K : PySem.W.Frag} {mg : Str → Option Value} {base : Heap} {A : Around} {outer : List Env} {s : Shared} {H : Hp} (e : Env0 P w K mg base A outer s H) :
    Env0 P w K mg base A.in1 outer s H := ⟨e.frames, e.mod, e.bs, e.bsz, e.funs, e.frf, e.hok, e.bare⟩

section
variable {X : Cx} {pins : List (Addr × Obj)} {σ : St} {H : Hp} {s s' : Shared}
/-- from a body: what a callee wants -/
theorem Inv.env0 (I : Inv X pins σ H s) : Env0 X.prog X.w X.K X.mg X.base X.A X.stack s H :=
  ⟨I.ok.frames, I.ok.mod, I.bs, Nat.le_trans I.ok.bsz I.sz, I.stack, I.stkFree, I.hok, I.bare.bare⟩
/-- behind a call -/
theorem Inv.after {Q : VK} {u : Value} (I : Inv X pins σ H s) (h : CE X.stack X.prog X.w H s Q u s') : EP X pins σ Q u s' := by
  obtain ⟨v, H', os, bare, un, hok, r, q⟩ := h
  obtain ⟨hh, g, d, t, os'⟩ := s'
  obtain rfl : os' = s.os := os
  exact ⟨v, H', I.call (h' := hh) (g' := g) (d' := d) (t' := t) (ch := []) un hok bare (fun b z => absurd z (by simp)), r, q⟩
end

/-! ### calls -/
/-- f(..): the written arguments, then the defaults dvs; E: what is wanted of an exception -/
def tCall (sp : Sp) (dvs : List V) (E : XK) (t : TA) : TE := fun σ H Q => t σ H fun vs H1 => sp (vs ++ dvs) H1 Q E
/-- how the parameters are bound: us the positional arguments, kw the keywords' values by name, ds the defaults that fill up -/
def Binds (K : PySem.W.Frag) (fd : FuncData) (ps : List Str) (ds : List Value) : Prop :=
  ∀ (s : Shared) (us : List Value), K.In s.heap → (us ++ ds).length = ps.length → BindsTo s fd ⟨us, []⟩ (ps.zip (us ++ ds))
/-- every parameter is given -/
theorem Binds.all {K : PySem.W.Frag} {fd : FuncData} {ps : List Str} (h : ∀ us : List Value, us.length = ps.length → bindArgs fd ⟨us, []⟩ = pure (ps.zip us)) : Binds K fd ps [] := fun s us _ hl => by
  rw [List.append_nil] at hl ⊢
  exact .of_eq (h us hl)

/-- an exception of a callee reaches what this body wants of exceptions -/
def Passes (CX : CXT) (X : Cx) (E : XK) : Prop := ∀ (pins : List (Addr × Obj)) (σ : St) (H : Hp) (s : Shared) (e : Value) (s' : Shared), Inv X pins σ H s → CX X.stack H s E e s' → X.xe e s'

section
variable {X : Cx} {CX : CXT} {k : Nat} {f C : Addr} {fd : FuncData} {ps : List Str} {sp : Sp} {dvs : List V} {ds : List Value} {E : XK} {x m : Str} {p pos apos : Pos} {e o : Expr} {es : List Expr} {ta : TE} {t : TA}

/-- the callee runs -/
theorem run_fn {pins : List (Addr × Obj)} {σ : St} {H : Hp} {s : Shared} {Q : VK} {us : List Value} {vs : List V} (F : FnOk X.prog X.w X.K X.mg X.base CX k f fd ps sp) (hr : Room k X.A) (hb : Binds X.K fd ps ds) (hd : Vals dvs ds) (hx : Passes CX X E)
    (I : Inv X pins σ H s) (r : Vals vs us) (h : sp (vs ++ dvs) H Q E) : wpAny (model X.prog X.w) X.A (call (.ref f) us) (EP X pins σ Q) X.xe s := by
  have r2 : Vals (vs ++ dvs) (us ++ ds) := r.append hd
  have hl : (us ++ ds).length = ps.length := by rw [← r2.length]; exact F.len _ _ _ _ h
  refine wpAny_call (codeAny_mono (F.run X.A X.stack s H ⟨us, []⟩ (us ++ ds) (vs ++ dvs) Q E hr I.env0 (hb s us I.kIn hl) r2 h) fun r s' hq => ?_)
  cases r with
  | error e => exact hx pins σ H s e s' I hq
  | ok fl =>
    cases fl with
    | ret u => exact I.after hq
    | next => exact False.elim hq
    | brk => exact False.elim hq
    | cont => exact False.elim hq

theorem pe_call (F : FnOk X.prog X.w X.K X.mg X.base CX k f fd ps sp) (hr : Room k X.A) (hg : Gl X x) (hm : X.mg x = some (.ref f)) (hk : PySem.W.keepIn X.K (.ref f) = true) (hb : Binds X.K fd ps ds) (hd : Vals dvs ds) (hx : Passes CX X E)
    (ha : PA X (e :: es) t) (hdb : (x == ("__debug__" : Str)) = false := by decide) (he : starEach (e :: es) X.env = (false, eval e X.env) :: starEach es X.env := by rfl) (hpl : (backTo pos (starEach es X.env)).any (·.1) = false := by rfl) :
    PE X (.Call (.Name x p) (e :: es) [] pos) (tCall sp dvs E t) := by
  intro pins s σ H Q I h
  refine wpAny_Call_Name_kw (ld_glob I hg hm ?_ hdb)
  refine PySem.W.callWith_K (h₀ := X.base) I.ok.mod.kin hk (thn (ha pos pins s σ H _ I h) fun us s1 ⟨vs, H1, I1, r, q⟩ => ⟨I1.kIn, ?_⟩) he hpl
  exact run_fn F hr hb hd hx I1 r q
/-- what a class must have to be made -/
structure Mk (K : PySem.W.Frag) (C f : Addr) : Prop where
  makes : PySem.W.makesIn K C = true
  init : PySem.W.findIn K (.ref C) "__init__" = some (some (.ref f))
  fn : PySem.W.isFn K (.ref f) = true
  kp : PySem.W.keepIn K (.ref C) = true

end

/-! ### keywords -/
section
variable {X : Cx} {CX : CXT} {k : Nat} {f C : Addr} {fd : FuncData} {ps ks : List Str} {sp : Sp} {E : XK} {x m : Str} {p pos apos kpos : Pos} {e o : Expr} {es : List Expr} {kws : List Keyword} {te ta : TE} {t tk : TA} {nm : Option Str}
/-- how a call with keywords binds: g puts the positional values us and the keywords' values ws (names ks) in the parameters' order, defaults among them -/
structure KBinds (K : PySem.W.Frag) (fd : FuncData) (ps ks : List Str) (g : List Value → List Value → List Value) (gV : List V → List V → List V) : Prop where
  to : ∀ (s : Shared) (us ws : List Value), K.In s.heap → (g us ws).length = ps.length → BindsTo s fd ⟨us, ks.zip ws⟩ (ps.zip (g us ws))
  rel : ∀ {vs : List V} {us : List Value} {zs : List V} {ws : List Value}, Vals vs us → Vals zs ws → Vals (gV vs zs) (g us ws)
variable {g : List Value → List Value → List Value} {gV : List V → List V → List V}
end

/-! ### a def's body keeps its promise -/
/-- names: the parameters first -/
structure FnScope (N P : List Str) (sc : Scope) : Prop where
  kind : sc.kind = .function
  co : sc.isCoroutine = false
  gen : sc.isGenerator = false
  nd : N.Nodup
  pre : N.take P.length = P
  par : ∀ x ∈ P, sc.names.lookup x = some .local ∨ sc.names.lookup x = some .cell
  nofree : ∀ y ∈ sc.names, y.2 ≠ .free

theorem bindL_out {kindOf : Str → Option NameKind} {x : Str} : ∀ {binds : List (Str × Value)} {m : Str → Option Value}, (∀ v, (x, v) ∉ binds) → bindL kindOf binds m x = m x
  | [], _, _ => rfl
  | (n, v) :: r, m, h => by
    unfold bindL
    rw [bindL_out fun w hw => h w (List.mem_cons_of_mem _ hw)]
    split
    · have : x ≠ n := by rintro rfl; exact h v List.mem_cons_self
      simp [this]
    · rfl
theorem bindC_out {kindOf : Str → Option NameKind} {x : Str} : ∀ {binds : List (Str × Value)} {m : Str → Option Value}, (∀ v, (x, v) ∉ binds) → bindC kindOf binds m x = m x
  | [], _, _ => rfl
  | (n, v) :: r, m, h => by
    unfold bindC
    rw [bindC_out fun w hw => h w (List.mem_cons_of_mem _ hw)]
    split
    · rfl
    · have : x ≠ n := by rintro rfl; exact h v List.mem_cons_self
      simp [this]
theorem bindL_get {kindOf : Str → Option NameKind} {x : Str} {v : Value} : ∀ {P : List Str} {vs : List Value} {i : Nat} {m : Str → Option Value}, P.Nodup → P[i]? = some x → vs[i]? = some v → kindOf x = some .local →
    bindL kindOf (P.zip vs) m x = some v
  | [], _, _, _, _, h, _, _ => by simp at h
  | _ :: _, [], _, _, _, _, h, _ => by simp at h
  | p :: P, w :: vs, 0, m, nd, h1, h2, hk => by
    simp at h1 h2; subst h1; subst h2
    show bindL kindOf ((p, w) :: P.zip vs) m p = _
    unfold bindL
    rw [bindL_out fun v hv => (List.nodup_cons.mp nd).1 (List.of_mem_zip hv).1, if_pos hk]
    simp
  | p :: P, w :: vs, i + 1, m, nd, h1, h2, hk => by
    show bindL kindOf ((p, w) :: P.zip vs) m x = _
    unfold bindL
    exact bindL_get (i := i) (List.nodup_cons.mp nd).2 (by simpa using h1) (by simpa using h2) hk
theorem bindC_get {kindOf : Str → Option NameKind} {x : Str} {v : Value} : ∀ {P : List Str} {vs : List Value} {i : Nat} {m : Str → Option Value}, P.Nodup → P[i]? = some x → vs[i]? = some v → kindOf x ≠ some .local →
    bindC kindOf (P.zip vs) m x = some v
  | [], _, _, _, _, h, _, _ => by simp at h
  | _ :: _, [], _, _, _, _, h, _ => by simp at h
  | p :: P, w :: vs, 0, m, nd, h1, h2, hk => by
    simp at h1 h2; subst h1; subst h2
    show bindC kindOf ((p, w) :: P.zip vs) m p = _
    unfold bindC
    rw [bindC_out fun v hv => (List.nodup_cons.mp nd).1 (List.of_mem_zip hv).1, if_neg hk]
    simp
  | p :: P, w :: vs, i + 1, m, nd, h1, h2, hk => by
    show bindC kindOf ((p, w) :: P.zip vs) m x = _
    unfold bindC
    exact bindC_get (i := i) (List.nodup_cons.mp nd).2 (by simpa using h1) (by simpa using h2) hk

/-- the names' values at the entry -/
def start (N : List Str) (vs : List V) : St := vs.map some ++ List.replicate (N.length - vs.length) none

/-- the context of a def's body, at its entry; an exception leaves the frame, then lies as CX says -/
def cxOf (CX : CXT) (P : Program) (w : World) (K : PySem.W.Frag) (mg : Str → Option Value) (base : Heap) (N : List Str) (qual : Str) (scope : Scope) (f : Addr) (cd : Value) (A : Around) (outer : List Env) (s : Shared) (H : Hp) (E : XK) : Cx where
  prog := P
  w := w
  K := K
  mg := mg
  base := base
  A := A.deeper (envOfC qual scope s.heap.objs.size f cd)
  N := N
  s_0 := s
  H_0 := H
  env := envOfC qual scope s.heap.objs.size f cd
  outer := outer
  stack := envOfC qual scope s.heap.objs.size f cd :: outer
  ex := []
  calm := true
  fn := fun _ => true
  pn := []
  xe := fun e s' => wpAny (model P w) (A.deeper (envOfC qual scope s.heap.objs.size f cd)) (leaving (envOfC qual scope s.heap.objs.size f cd) e) (fun _ s'' => CX outer H s E e s'') (fun e' s'' => CX outer H s E e' s'') s'

theorem cell_has {sc : Scope} {n : Nat} {x : Str} (h : sc.names.lookup x = some .cell) : ∃ c, (cellsFrom n sc.names []).lookup x = some c := by
  have q := PySem.W.cellsFrom_some sc.names n [] (.inl h)
  exact Option.isSome_iff_exists.mp q

theorem inv_start {CX : CXT} {P : Program} {w : World} {K : PySem.W.Frag} {mg : Str → Option Value} {base : Heap} {N ps : List Str} {qual : Str} {scope : Scope} {f : Addr} {cd : Value} {A : Around} {outer : List Env} {s s1 : Shared} {H : Hp} {E : XK} {us : List Value} {vs : List V}
    (S : FnScope N ps scope) (hd : A.handled = none) (e0 : Env0 P w K mg base A outer s H) (hl : vs.length = ps.length) (r : Vals vs us)
    (x : InCallC s s.heap.objs.size (bindL (envOfC qual scope s.heap.objs.size f cd).kindOf (ps.zip us) fun _ => none) (cellsFrom (s.heap.objs.size + 1) scope.names []) (bindC (envOfC qual scope s.heap.objs.size f cd).kindOf (ps.zip us) fun _ => none) s1) :
    Inv (cxOf CX P w K mg base N qual scope f cd A outer s H E) [] (start N vs) H s1 := by
  have hpl : ps.length ≤ N.length := by have := congrArg List.length S.pre; rw [List.length_take] at this; omega
  obtain ⟨h1, tk, rfl, hk⟩ := x.done
  have noA : ∀ b : Addr, b ∉ (cxOf CX P w K mg base N qual scope f cd A outer s H E).ex := fun b z => absurd (show b ∈ ([] : List Addr) from z) (by simp)
  refine ⟨⟨e0.mod, S.kind, rfl, rfl, Nat.le_refl _, fun y z c h1 h2 => ?_, fun y hy => ?_, fun y c _ h => ?_, fun _ => hd, Around.frames_deeper e0.frames, .inr ⟨rfl, rfl⟩, fun b z => absurd z (noA b), e0.bs, e0.bsz, fun b _ _ => noA b, fun b z => absurd z (noA b), e0.funs, e0.frf⟩,
    rfl, GP.refl e0.bare, Un.kept hk, ⟨_, x.toInCall.ns, fun i y v h1 h2 h3 => ?_⟩, fun y c h => ⟨_, x.cell y c h⟩, e0.hok.fresh (Nat.le_refl _), fun y c h => ?_, fun p hp => absurd (show p ∈ ([] : List (Addr × Obj)) from hp) (by simp), e0.hok.kept hk, ?_⟩
  · exact name_of_addr x.apart (PySem.mem_of_lookup h1) (PySem.mem_of_lookup h2)
  · have hy : scope.names.lookup y = some .cell ∨ scope.names.lookup y = some .free := hy
    rcases hy with hy | hy
    · exact cell_has hy
    · exact absurd rfl (S.nofree _ (PySem.mem_of_lookup hy))
  · exact Nat.le_of_lt (x.above y c (PySem.mem_of_lookup h))
  · have hi : i < vs.length := by
      unfold start at h2
      by_cases hi : i < vs.length
      · exact hi
      · rw [List.getElem?_append_right (by simpa using hi)] at h2
        rw [List.getElem?_replicate] at h2
        split at h2 <;> cases h2
    have ha : vs[i]? = some v := by
      unfold start at h2
      rw [List.getElem?_append_left (by simpa using hi), List.getElem?_map] at h2
      cases e : vs[i]? with
      | none => rw [e] at h2; cases h2
      | some a => rw [e] at h2; cases h2; rfl
    obtain ⟨u, hu, rv⟩ := r.get ha
    have hp : ps[i]? = some y := by
      rw [← S.pre, List.getElem?_take_of_lt (by omega)]; exact h1
    have ndP : ps.Nodup := by rw [← S.pre]; exact S.nd.sublist (List.take_sublist _ _)
    refine ⟨u, rv, ?_⟩
    rcases S.par y (List.mem_of_getElem? hp) with k | k
    · exact .inl ⟨k, bindL_get ndP hp hu k⟩
    · obtain ⟨c, e⟩ := cell_has (n := s.heap.objs.size + 1) k
      refine .inr ⟨.inl k, c, e, ?_⟩
      have q := x.cell y c e
      rw [bindC_get ndP hp hu (by show scope.names.lookup y ≠ _; rw [k]; decide)] at q
      exact q
  · exact e0.hok.fresh (Nat.le_of_lt (x.above y c (PySem.mem_of_lookup h)))
  · unfold start
    show _ = N.length
    rw [List.length_append, List.length_map, List.length_replicate]
    omega

/-- THE RULE: a def (or a method) of the text, by its body. The body's reading t is chosen for each entry; it is run at the parameters' values -/
theorem fn_of {CX : CXT} {P : Program} {w : World} {K : PySem.W.Frag} {mg : Str → Option Value} {base : Heap} {k : Nat} {f : Addr} {name qual : Str} {params : Arguments} {body : List Stmt} {scope : Scope} {dV kV doc pm cdv ct oc : Value} {an od : Option Addr}
    {osl : Array (Option Value)} {N ps : List Str} {sp : Sp} (lk : K.lookup f = some ⟨oc, od, .func (PySem.W.fnOf name qual params body scope dV kV doc pm an cdv ct), osl⟩) (hcd : PySem.W.codeIn K cdv qual = true) (S : FnScope N ps scope)
    (len : ∀ vs H Q E, sp vs H Q E → vs.length = ps.length)
    (hbody : ∀ (A : Around) (outer : List Env) (s : Shared) (H : Hp) (vs : List V) (Q : VK) (E : XK), Room k (A.deeper (envOfC qual scope s.heap.objs.size f cdv)) → sp vs H Q E →
      ∃ t, PSs (cxOf CX P w K mg base N qual scope f cdv A outer s H E) body t ∧ t { nx := fun _ H' => Q .non H', rt := Q } (start N vs) H) :
    FnOk P w K mg base CX (k + 1) f (PySem.W.fnOf name qual params body scope dV kV doc pm an cdv ct) ps sp := by
  refine ⟨len, fun A outer s H args us vs Q E hr e0 hb r hsp => ?_⟩
  have hl := len _ _ _ _ hsp
  have KX : K.In s.heap := e0.mod.kin.keeps fun b o e => (e0.bs b o e).1
  have lim : s.heap.NoLimit := e0.mod.nolimit.keeps fun b o e => (e0.bs b o e).1
  have hkind : ∀ y ∈ ps.zip us, scope.names.lookup y.1 = some .local ∨ (scope.names.lookup y.1 = some .cell ∧ ((cellsFrom (s.heap.objs.size + 1) scope.names []).lookup y.1).isSome = true) := fun ⟨n, v⟩ hy => by
    rcases S.par n (List.of_mem_zip hy).1 with q | q
    · exact .inl q
    · exact .inr ⟨q, PySem.W.cellsFrom_some _ _ _ (.inl q)⟩
  refine codeAny_call_function hr.depth (KX _ _ lk) rfl S.co S.gen rfl (PySem.W.codeRec_of KX hcd) (hb _ _ _ _ ?_)
  refine wpAny_newFunctionEnv_cells S.kind hkind fun env he s1 x => ?_
  subst he
  refine ⟨lim.keeps x.toInCall.keep, codeAny_func ?_⟩
  obtain ⟨t, ht, hq⟩ := hbody A outer s H vs Q E (hr.deeper _) hsp
  have I : Inv (cxOf CX P w K mg base N qual scope f cdv A outer s H E) [] (start N vs) H s1 := inv_start S hr.hd e0 hl r x
  refine wpAny_mono (ht [] s1 (start N vs) H _ I hq) (fun fl s' hs => ?_) fun e s' hs => hs
  have fin : ∀ {σ' : St} {H' : Hp} {v : V} {u : Value}, Inv (cxOf CX P w K mg base N qual scope f cdv A outer s H E) [] σ' H' s' → RelV v u → Q v H' → CE outer P w H s Q u s' :=
    fun {σ' H' v u} J rv q => ⟨v, H', J.os, J.bare, J.base, J.hok, rv, q⟩
  cases fl with
  | ret u =>
    obtain ⟨v, σ', H', J, rv, q⟩ := hs
    exact fin J rv q
  | next =>
    obtain ⟨σ', H', J, q⟩ := hs
    exact fin (v := V.non) (u := Value.none) J rfl q
  | brk =>
    obtain ⟨_, _, _, q⟩ := hs
    exact False.elim q
  | cont =>
    obtain ⟨_, _, _, q⟩ := hs
    exact False.elim q
end L2

namespace L2
open PySem PySem.Spec PyProof.Rows
section
variable {X : Cx} {x : Str} {p pos : Pos} {e : Expr} {es : List Expr} {t : TA} {id T : String} {r : List V → Hp → VK → Prop}

def tCB (r : List V → Hp → VK → Prop) (t : TA) : TE := fun σ H Q => t σ H fun vs H1 => r vs H1 Q
/-- f(e, ..), f a built-in function -/
theorem pe_callB (hc : CallR X (.builtin id) r) (hg : Gl X x) (hm : X.mg x = none) (hv : bootBuiltins x = some (.builtin id)) (ha : PA X (e :: es) t) (hn : x ≠ "__name__" := by decide) (hdb : (x == ("__debug__" : Str)) = false := by decide)
    (he : starEach (e :: es) X.env = (false, eval e X.env) :: starEach es X.env := by rfl) (hpl : (backTo pos (starEach es X.env)).any (·.1) = false := by rfl) : PE X (.Call (.Name x p) (e :: es) [] pos) (tCB r t) := by
  intro pins s σ H Q I h
  refine wpAny_Call_Name_kw (ld_blt I hg hm hv ?_ hn hdb)
  exact PyProof.Rows.callWith_builtin1 (thn (ha pos pins s σ H _ I h) fun us s1 ⟨vs, H1, I1, r1, q1⟩ => hc pins s1 σ H1 vs us Q I1 r1 q1) he hpl
/-- T(e, ..), T a built-in type -/
theorem pe_callTy (hc : CallR X (.type T) r) (hg : Gl X x) (hm : X.mg x = none) (hv : bootBuiltins x = some (.type T)) (ha : PA X (e :: es) t) (hn : x ≠ "__name__" := by decide) (hdb : (x == ("__debug__" : Str)) = false := by decide)
    (he : starEach (e :: es) X.env = (false, eval e X.env) :: starEach es X.env := by rfl) (hpl : (backTo pos (starEach es X.env)).any (·.1) = false := by rfl) : PE X (.Call (.Name x p) (e :: es) [] pos) (tCB r t) := by
  intro pins s σ H Q I h
  refine wpAny_Call_Name_kw (ld_blt I hg hm hv ?_ hn hdb)
  exact PyProof.Rows.callWith_type1 (thn (ha pos pins s σ H _ I h) fun us s1 ⟨vs, H1, I1, r1, q1⟩ => hc pins s1 σ H1 vs us Q I1 r1 q1) he hpl
end
end L2

namespace HT
open PySem PyProof.Rows

theorem eqAt_int (A : Around) (s : Shared) (a : Int) (t : Tok) (c : Int) (u : Tok) : ∃ e, SeqAt.EqAt A s (.int a t) (.int c u) e ∧ (e = true ↔ a = c) :=
  ⟨(a == c), SeqAt.EqAt.int_int a t c u, by simp⟩
section
open PySem.SeqAt
open PySem.AutoSeq1 (wpAny_loadPart')
open PySem.MeetsSeq PySem.MeetsSeq2 PySem.MeetsSeq3

end

section
variable {prog : Program} {w : World} {A : Around} {E : Value → Shared → Prop} {s : Shared}

/-- t + u, t not empty -/
theorem cat_tup {t b : Addr} {vs ws : List Value} {Q : Value → Shared → Prop} (ht : IsTup s.heap t vs.toArray) (hb : IsTup s.heap b ws.toArray) (hv : vs ≠ [])
    (h1 : ws = [] → Q (.ref t) s) (h2 : ws ≠ [] → Q (.ref s.heap.objs.size) { s with heap := s.heap.push { cls := .type "tuple", data := .seq (vs ++ ws).toArray } })
    (hsz : vs.length + ws.length ≤ sizeLine) : wpAny (model prog w) A (binaryOp .Add (.ref t) (.ref b)) Q E s := by
  obtain ⟨⟨cls, dd, data, sl⟩, ho, hc, n, hd⟩ := id ht
  obtain ⟨⟨cls2, dd2, data2, sl2⟩, ho2, hc2, n2, hd2⟩ := id hb
  simp only at hc hd hc2 hd2
  subst hc hd hc2 hd2
  have e : vs.toArray ++ ws.toArray = (vs ++ ws).toArray := by simp
  by_cases hw : ws = []
  · exact concat_meets ⟨_, ho, rfl⟩ ⟨_, ho2, rfl⟩ noFill_tuple_add seq_tuple_add PySem.F.slot_tuple_add PySem.F.entry_tuple_add (PySem.F.args_tuple_add_2 _ _)
      (tuple_addW1 t b vs.toArray ws.toArray n n2 dd dd2 sl sl2 (by simpa using hv) (by simp [hw])) ⟨ho, ho2, h1 hw⟩
  · refine concat_meets ⟨_, ho, rfl⟩ ⟨_, ho2, rfl⟩ noFill_tuple_add seq_tuple_add PySem.F.slot_tuple_add PySem.F.entry_tuple_add (PySem.F.args_tuple_add_2 _ _)
      (tuple_addW2 t b vs.toArray ws.toArray n n2 dd dd2 sl sl2 (by simpa using hv) (by simpa using hw) (by rw [List.size_toArray, List.size_toArray]; exact hsz)) ⟨ho, ho2, ?_⟩
    rw [e]
    exact h2 hw

/-! ### t[a:b], not the whole -/
/-- a slice's bound as a place among n (d where it is left out) -/
def sIx (n d : Nat) : Option Int → Nat
  | none => d
  | some v => if v < 0 then (v + (n : Int)).toNat else min v.toNat n
theorem sIx_none (n d : Nat) : sIx n d none = d := rfl
theorem sIx_nat (n d k : Nat) : sIx n d (some (k : Int)) = min k n := by
  show (if (k : Int) < 0 then ((k : Int) + (n : Int)).toNat else min (k : Int).toNat n) = min k n
  rw [if_neg (by omega), Int.toNat_natCast]
theorem sIx_le (n d : Nat) (hd : d ≤ n) (o : Option Int) : sIx n d o ≤ n := by
  cases o with
  | none => exact hd
  | some v =>
    show (if v < 0 then (v + (n : Int)).toNat else min v.toNat n) ≤ n
    by_cases hv : v < 0
    · rw [if_pos hv]; omega
    · rw [if_neg hv]; exact Nat.min_le_right _ _
theorem clip_eq (v : Int) (n d : Nat) : (if v < 0 then max (v + (n : Int)) 0 else min v (n : Int)) = ((sIx n d (some v) : Nat) : Int) := by
  show (if v < 0 then max (v + (n : Int)) 0 else min v (n : Int)) = (((if v < 0 then (v + (n : Int)).toNat else min v.toNat n) : Nat) : Int)
  by_cases hv : v < 0
  · simp only [if_pos hv]; omega
  · simp only [if_neg hv]; omega
theorem adjust_gen (lo hi : Option Int) (n : Nat) : Builtin.Slice.sliceAdjust lo hi 1 (n : Int) = (((sIx n 0 lo : Nat) : Int), ((sIx n n hi : Nat) : Int)) := by
  have h1 : ¬ ((1 : Int) < 0) := by omega
  unfold Builtin.Slice.sliceAdjust
  simp only [h1, if_false]
  refine Prod.ext ?_ ?_
  · cases lo with
    | none => rfl
    | some v => exact clip_eq v n 0
  · cases hi with
    | none => rfl
    | some v => exact clip_eq v n n
theorem places_gen (i j : Nat) : Builtin.Slice.slicePlaces (i : Int) (j : Int) 1 = j - i := by
  unfold Builtin.Slice.slicePlaces
  have h1 : (1 : Int) > 0 := by omega
  simp only [h1, if_true, Int.ediv_one]
  split <;> omega
theorem slicePart_ {v : Value} {o : Option Int} {Q : Option Int → Shared → Prop} (p : IsPart v o) (h : Q o s) : wpAny (model prog w) A (Builtin.Slice.slicePartIndex v) Q E s := by
  cases p with
  | none => exact slicePart_none h
  | int i t => exact slicePart_int h
theorem sliceApplied_gen {sl : Addr} {vl vu : Value} {lo hi : Option Int} {n : Nat} {Q : Int × Int × Nat → Shared → Prop} (hs : s.heap.IsSliceOf sl vl vu .none) (pl : IsPart vl lo) (pu : IsPart vu hi)
    (h : Q (((sIx n 0 lo : Nat) : Int), 1, sIx n n hi - sIx n 0 lo) s) : wpAny (model prog w) A (Builtin.Slice.sliceApplied (.ref sl) (pure (n : Int))) Q E s := by
  obtain ⟨os, hos, hcs, hds⟩ := id hs
  unfold Builtin.Slice.sliceApplied Builtin.Slice.sliceFields
  refine wpAny_bind (wpAny_bind (wpAny_field hos hds (x := vl) rfl (wpAny_bind (wpAny_field hos hds (x := vu) rfl (wpAny_bind (wpAny_field hos hds (x := .none) rfl (wpAny_pure ?_)))))))
  refine wpAny_bind (slicePart_none ?_)
  show wpAny _ _ (if ((1 : Int) == 0) = true then _ else _) _ _ s
  rw [if_neg (by decide)]
  refine wpAny_bind (slicePart_ pl (wpAny_bind (slicePart_ pu (wpAny_bind (wpAny_pure ?_)))))
  show wpAny _ _ (match Builtin.Slice.sliceAdjust lo hi 1 (n : Int) with | (lo, hi) => pure (lo, (1 : Int), Builtin.Slice.slicePlaces lo hi 1)) _ _ s
  rw [adjust_gen lo hi n]
  show wpAny _ _ (pure (((sIx n 0 lo : Nat) : Int), (1 : Int), Builtin.Slice.slicePlaces ((sIx n 0 lo : Nat) : Int) ((sIx n n hi : Nat) : Int) 1)) _ _ s
  rw [places_gen]
  exact wpAny_pure h
theorem pick_gen (xs : Array Value) (i k : Nat) : ((List.range k).filterMap fun (m : Nat) => xs[((i : Int) + (m : Int) * 1).toNat]?).toArray = ((xs.toList.drop i).take k).toArray := by
  have e : (fun (m : Nat) => xs[((i : Int) + (m : Int) * 1).toNat]?) = fun m => xs[i + m]? := by
    funext m
    have : ((i : Int) + (m : Int) * 1).toNat = i + m := by omega
    rw [this]
  rw [e]
  have := pick_run xs i k
  rw [List.filterMap_map] at this
  have e2 : ((fun x => xs[x]?) ∘ fun x => i + x) = fun m => xs[i + m]? := rfl
  rw [e2] at this
  rw [this]

theorem getItem_tuple_cut {t sl : Addr} {items : Array Value} {vl vu : Value} {lo hi : Option Int} {Q : Value → Shared → Prop} (ht : IsTup s.heap t items) (hs : s.heap.IsSliceOf sl vl vu .none) (pl : IsPart vl lo) (pu : IsPart vu hi)
    (hw : ¬ (sIx items.size 0 lo = 0 ∧ sIx items.size items.size hi = items.size))
    (h : Q (.ref s.heap.objs.size) { s with heap := s.heap.push { cls := .type "tuple", data := .seq ((items.toList.drop (sIx items.size 0 lo)).take (sIx items.size items.size hi - sIx items.size 0 lo)).toArray } })
    (hsz : items.size ≤ sizeLine) : wpAny (model prog w) A (getItem (.ref t) (.ref sl)) Q E s := by
  have htake : sizeOk (.seq ((items.toList.drop (sIx items.size 0 lo)).take (sIx items.size items.size hi - sIx items.size 0 lo)).toArray) := by
    show ((items.toList.drop (sIx items.size 0 lo)).take (sIx items.size items.size hi - sIx items.size 0 lo)).toArray.size ≤ sizeLine
    rw [List.size_toArray, List.length_take, List.length_drop, Array.length_toList]
    omega
  have hj : sIx items.size items.size hi ≤ items.size := sIx_le _ _ (Nat.le_refl _) hi
  obtain ⟨os, hos, hcs, hds⟩ := id hs
  have hTs : s.TypeIs (.ref sl) "slice" := ⟨os, hos, hcs⟩
  unfold getItem
  try with_reducible refine wpAny_holding ?_
  first | refine wpAny_bind (wpAny_pure ?_) | skip
  refine wpAny_bind (wpAny_sequenceKey ht.typeIs (by decide) ?_)
  refine wpAny_bind (wpAny_callSpecial?_slot (name := Str.ofString "__getitem__") ht.typeIs PyProof.Rows.slot_tuple_getitem
    (wpAny_call_entry PyProof.Rows.slot_tuple_getitem ht.typeIs entry_tuple_getitem ?_ (args_tuple_getitem _ _)))
  show wpAny _ _ (Builtin.Tuple.tupleItemsOf (.ref t) >>= _) _ _ s
  refine wpAny_bind (tupleItemsOf_ ht ?_)
  refine wpAny_bind (wpAny_typeOf hTs ?_)
  rw [if_pos (by decide)]
  refine wpAny_bind (sliceApplied_gen hs pl pu ?_)
  have hno : ¬ ((((sIx items.size 0 lo : Nat) : Int) == 0 && (1 : Int) == 1 && (sIx items.size items.size hi - sIx items.size 0 lo) == items.size) = true) := by
    intro q
    rw [Bool.and_eq_true, Bool.and_eq_true] at q
    have q1 : ((sIx items.size 0 lo : Nat) : Int) = 0 := eq_of_beq q.1.1
    have q2 : sIx items.size items.size hi - sIx items.size 0 lo = items.size := eq_of_beq q.2
    exact hw ⟨by omega, by omega⟩
  show wpAny _ _ (if (((sIx items.size 0 lo : Nat) : Int) == 0 && (1 : Int) == 1 && (sIx items.size items.size hi - sIx items.size 0 lo) == items.size) = true then _ else _) _ _ s
  rw [if_neg hno, pick_gen]
  first
    | exact wpAny_bind (m := Builtin.Tuple.tupleExact _) (wpAny_newObj_type (wpAny_pure ⟨_, rfl, wpAny_pure h⟩) htake)
    | exact wpAny_bind (m := Builtin.Tuple.tupleExact _) (wpAny_newObj_type (wpAny_bind (wpAny_pure (wpAny_pure ⟨_, rfl, wpAny_pure h⟩))) htake)
    | exact wpAny_bind (wpAny_bind (m := Builtin.Tuple.tupleExact _) (wpAny_newObj_type (wpAny_pure (wpAny_pure ⟨_, rfl, wpAny_pure h⟩)) htake))
    | exact wpAny_bind (wpAny_bind (m := Builtin.Tuple.tupleExact _) (wpAny_newObj_type (wpAny_pure ⟨_, rfl, wpAny_pure h⟩) htake))
end
end HT

namespace L2
open PySem PySem.Spec PyProof.Rows

/-! ### the parts of a slice -/
abbrev TO := St → Hp → (Option Int → Hp → Prop) → Prop
/-- a slice's part (left out, or an int) -/
def PO (X : Cx) (e : Option Expr) (t : TO) : Prop :=
  ∀ (pins : List (Addr × Obj)) (s : Shared) (σ : St) (H : Hp) (Q : Option Int → Hp → Prop), Inv X pins σ H s → t σ H Q →
    wpAny (model X.prog X.w) X.A (evalPart e X.env) (fun u s' => ∃ o H', Inv X pins σ H' s' ∧ IsPart u o ∧ Q o H') X.xe s
def tNoPart : TO := fun _ H Q => Q none H
def tPart (t : TE) : TO := fun σ H Q => t σ H fun x H1 => ∃ i, x = .int i ∧ Q (some i) H1

section
variable {X : Cx} {e : Expr} {te : TE} {lo hi : Option Expr} {tl th : TO} {pos p2 : Pos}

theorem po_none : PO X none tNoPart := by
  intro pins s σ H Q I h
  rw [evalPart_none]
  exact wpAny_pure ⟨none, H, I, .none, h⟩
theorem po_some (h : PE X e te) : PO X (some e) (tPart te) := by
  intro pins s σ H Q I hw
  rw [evalPart_some]
  refine thn (h pins s σ H _ I hw) fun u s1 ⟨x, H1, I1, r1, q1⟩ => ?_
  obtain ⟨i, rfl, q⟩ := q1
  obtain ⟨t, rfl⟩ := r1
  exact ⟨some i, H1, I1, .int i t, q⟩

/-- what a slice of a value is, by values: the slice object stands at sl -/
def SlR (X : Cx) (r : V → Option Int → Option Int → Hp → VK → Prop) : Prop :=
  ∀ (pins : List (Addr × Obj)) (s : Shared) (σ : St) (H : Hp) (x : V) (v vl vu : Value) (lo hi : Option Int) (sl : Addr) (Q : VK), Inv X pins σ H s → RelV x v → s.heap.IsSliceOf sl vl vu .none → IsPart vl lo → IsPart vu hi → r x lo hi H Q →
    ∃ T id, typeLookup (.type T) "__getitem__" = pure (some (.builtin id)) ∧ s.TypeIs v T ∧ wpAny (model X.prog X.w) X.A (getItem v (.ref sl)) (EP X pins σ Q) X.xe s
theorem SlR.or {r r' : V → Option Int → Option Int → Hp → VK → Prop} (h : SlR X r) (h' : SlR X r') : SlR X (fun x lo hi H Q => r x lo hi H Q ∨ r' x lo hi H Q) := by
  intro pins s σ H x v vl vu lo hi sl Q I rx hs pl pu q
  rcases q with q | q
  · exact h pins s σ H x v vl vu lo hi sl Q I rx hs pl pu q
  · exact h' pins s σ H x v vl vu lo hi sl Q I rx hs pl pu q
def tSl (r : V → Option Int → Option Int → Hp → VK → Prop) (te : TE) (tl th : TO) : TE := fun σ H Q => te σ H fun x H1 => tl σ H1 fun l H2 => th σ H2 fun u H3 => r x l u H3 Q
/-- a[lo:hi], any a -/
theorem pe_slice {r : V → Option Int → Option Int → Hp → VK → Prop} (hr : SlR X r) (he : PE X e te) (hl : PO X lo tl) (hu : PO X hi th) : PE X (.Subscript e (.Slice lo hi none p2) pos) (tSl r te tl th) := by
  intro pins s σ H Q I h
  refine Subscript_ (thn (he pins s σ H _ I h) fun v s1 ⟨x, H1, I1, r1, q1⟩ => ?_)
  refine wpAny_Slice (thn (hl pins s1 σ H1 _ I1 q1) fun vl s2 ⟨l, H2, I2, pl, q2⟩ => thn (hu pins s2 σ H2 _ I2 q2) fun vu s3 ⟨u, H3, I3, pu, q3⟩ => ?_)
  rw [evalPart_none]
  refine wpAny_pure ?_
  have I4 : Inv X pins σ H3 { s3 with heap := s3.heap.push { cls := .type "slice", data := .fields #[vl, vu, .none] } } := I3.kept (t' := s3.toks) fun b ob q => Heap.get?_push_of_some _ q
  obtain ⟨T, id, hT, ht, hg⟩ := hr pins { s3 with heap := s3.heap.push { cls := .type "slice", data := .fields #[vl, vu, .none] } } σ H3 x v vl vu l u s3.heap.objs.size Q I4 r1 (Heap.IsSliceOf.new ..) pl pu q3
  show wpAny (model X.prog X.w) X.A (subscriptTail e (.Slice lo hi none p2) v (.ref s3.heap.objs.size)) (EP X pins σ Q) X.xe { s3 with heap := s3.heap.push { cls := .type "slice", data := .fields #[vl, vu, .none] } }
  exact tail_any (ops := [.ref s3.heap.objs.size, v]) ht hT hg (by with_unfolding_all rfl)

/-- the items of xs[lo:hi] -/
def cutV (xs : List V) (lo hi : Option Int) : List V := (xs.drop (HT.sIx xs.length 0 lo)).take (HT.sIx xs.length xs.length hi - HT.sIx xs.length 0 lo)
theorem cutV_length (xs : List V) (lo hi : Option Int) : (cutV xs lo hi).length ≤ xs.length := by
  unfold cutV
  rw [List.length_take, List.length_drop]
  omega
/-- t[lo:hi], not the whole of it (the whole would be t itself) -/
def rSlT (K : PySem.W.Frag) : V → Option Int → Option Int → Hp → VK → Prop := fun x lo hi H Q => ∃ a xs, x = .ref a ∧ SqT K H a xs ∧
  ¬ (HT.sIx xs.length 0 lo = 0 ∧ HT.sIx xs.length xs.length hi = xs.length) ∧ ∀ p, H p = none → Q (.ref p) (upd H p (.tup (cutV xs lo hi)))
theorem sl_tup : SlR X (rSlT X.K) := by
  intro pins s σ H x v vl vu lo hi sl Q I rx hs pl pu h
  obtain ⟨a, xs, rfl, hx, hw, q⟩ := h
  cases rx
  obtain ⟨its, r, ht, hz⟩ := I.tuple hx
  have hlen : its.toArray.size = xs.length := by rw [List.size_toArray]; exact r.length.symm
  refine ⟨"tuple", _, PyProof.Rows.slot_tuple_getitem.lookup, ht.typeIs, ?_⟩
  refine HT.getItem_tuple_cut ht hs pl pu (by rw [hlen]; exact hw) ?_ (by rw [hlen]; exact hz)
  rw [hlen]
  refine ⟨.ref s.heap.objs.size, _, I.laid (t' := s.toks) (o := .tup (cutV xs lo hi)) (fun b ob q => Heap.get?_push_of_some _ q) (Nat.le_refl _) ?_, rfl, q _ (I.hok.fresh (Nat.le_refl _))⟩
  exact ⟨Nat.le_trans (cutV_length xs lo hi) hz, _, (r.drop (HT.sIx xs.length 0 lo)).take (HT.sIx xs.length xs.length hi - HT.sIx xs.length 0 lo), IsTup.new _ _⟩

/-! ### t < u, t + u -/
/-- t + u, t not empty: u empty gives t itself -/
def rCatT (K : PySem.W.Frag) : R2 := fun x y H Q => ∃ a b xs ys, x = .ref a ∧ y = .ref b ∧ SqT K H a xs ∧ SqT K H b ys ∧ xs ≠ [] ∧ xs.length + ys.length ≤ sizeLine ∧
  (ys = [] → Q (.ref a) H) ∧ (ys ≠ [] → ∀ p, H p = none → Q (.ref p) (upd H p (.tup (xs ++ ys))))
theorem Vals.nil_iff {xs : List V} {us : List Value} (r : Vals xs us) : us = [] ↔ xs = [] := by
  cases r with
  | nil => simp
  | cons _ _ => simp
theorem op_catT : OpR X (binaryOp .Add) (rCatT X.K) := by
  intro pins s σ H x y v u Q I rx ry h
  obtain ⟨a, b, xs, ys, rfl, rfl, ha, hb, hx, hz, q1, q2⟩ := h
  cases rx
  cases ry
  obtain ⟨its, r1, p1, _⟩ := I.tuple ha
  obtain ⟨its2, r2, p2, _⟩ := I.tuple hb
  refine HT.cat_tup p1 p2 (fun z => hx (r1.nil_iff.mp z)) (fun z => ⟨.ref a, H, I, rfl, q1 (r2.nil_iff.mp z)⟩) (fun z => ?_) (by rw [← r1.length, ← r2.length]; exact hz)
  refine ⟨.ref s.heap.objs.size, _, I.laid (t' := s.toks) (o := .tup (xs ++ ys)) (fun b ob q => Heap.get?_push_of_some _ q) (Nat.le_refl _) ?_, rfl, q2 (fun w => z (r2.nil_iff.mpr w)) _ (I.hok.fresh (Nat.le_refl _))⟩
  exact ⟨by rw [List.length_append]; exact hz, _, r1.append r2, IsTup.new _ _⟩
end
end L2

namespace L2
open PySem PySem.Spec PyProof.Rows

/-! ### places -/
/-- the place that an index of any sign means -/
def ixN (n : Nat) (i : Int) : Option Nat := if 0 ≤ i then (if i < n then some i.toNat else none) else if -(n : Int) ≤ i then some (i + n).toNat else none
def atI {α : Type} (xs : List α) (i : Int) : Option α := (ixN xs.length i).bind fun j => xs[j]?
theorem ixN_seq {n : Nat} {i : Int} {j : Nat} (h : ixN n i = some j) : seqIndex? i n = some j ∧ j < n ∧ -(n : Int) ≤ i ∧ i < n := by
  unfold ixN at h
  by_cases h0 : 0 ≤ i
  · rw [if_pos h0] at h
    by_cases h1 : i < n
    · rw [if_pos h1] at h
      have e : i.toNat = j := Option.some.inj h
      exact ⟨by rw [seqIndex_of h0 h1, e], by omega, by omega, h1⟩
    · rw [if_neg h1] at h; cases h
  · rw [if_neg h0] at h
    by_cases h1 : -(n : Int) ≤ i
    · rw [if_pos h1] at h
      have e : (i + n).toNat = j := Option.some.inj h
      exact ⟨by rw [seqIndex_neg (by omega) h1, e], by omega, h1, by omega⟩
    · rw [if_neg h1] at h; cases h
theorem atI_get {α : Type} {xs : List α} {i : Int} {v : α} (h : atI xs i = some v) : ∃ j, seqIndex? i xs.length = some j ∧ xs[j]? = some v ∧ j < xs.length ∧ -(xs.length : Int) ≤ i ∧ i < xs.length := by
  unfold atI at h
  cases e : ixN xs.length i with
  | none => rw [e] at h; cases h
  | some j =>
    rw [e] at h
    obtain ⟨h1, h2, h3, h4⟩ := ixN_seq e
    exact ⟨j, h1, h, h2, h3, h4⟩
theorem atI_nat {α : Type} {xs : List α} {j : Nat} {v : α} (h : xs[j]? = some v) : atI xs (j : Int) = some v := by
  have hj : j < xs.length := (List.getElem?_eq_some_iff.mp h).1
  have e : ixN xs.length (j : Int) = some j := by
    unfold ixN
    rw [if_pos (by omega), if_pos (by omega)]; simp
  unfold atI; rw [e]; exact h
theorem atI_last {α : Type} (xs : List α) (v : α) : atI (xs ++ [v]) (-1) = some v := by
  have hl : (xs ++ [v]).length = xs.length + 1 := by simp
  have e : ixN (xs ++ [v]).length (-1) = some xs.length := by
    unfold ixN
    rw [hl, if_neg (by decide), if_pos (by omega)]
    congr 1
    omega
  unfold atI
  rw [e]
  show (xs ++ [v])[xs.length]? = some v
  simp

/-! ### what may be subscripted -/
/-- what stands as an index of a plain subscript -/
def PlainIx (b : Expr) : Prop := ∀ o i, subscripted b false o i = operate [o, i] (getItem o i)
/-- a subscript by values -/
def IxR (X : Cx) (r : R2) : Prop :=
  ∀ (value slice : Expr) (pins : List (Addr × Obj)) (s : Shared) (σ : St) (H : Hp) (x y : V) (v u : Value) (Q : VK), Inv X pins σ H s → RelV x v → RelV y u → r x y H Q →
    subscripted slice false v u = operate [v, u] (getItem v u) → wpAny (model X.prog X.w) X.A (subscriptTail value slice v u) (EP X pins σ Q) X.xe s
/-- a call of a builtin's method by values: the receiver, the arguments -/
def MtR (X : Cx) (id : String) (r : V → List V → Hp → VK → Prop) : Prop :=
  ∀ (pins : List (Addr × Obj)) (s : Shared) (σ : St) (H : Hp) (x : V) (xs : List V) (v : Value) (us : List Value) (Q : VK), Inv X pins σ H s → RelV x v → Vals xs us → r x xs H Q →
    wpAny (model X.prog X.w) X.A (call (.builtin id) (v :: us)) (EP X pins σ Q) X.xe s
section
variable {X : Cx} {a b : Expr} {ta tb : TE} {pos : Pos}
theorem IxR.or {r r' : R2} (h : IxR X r) (h' : IxR X r') : IxR X (fun x y H Q => r x y H Q ∨ r' x y H Q) := by
  intro value slice pins s σ H x y v u Q I rx ry q hs
  rcases q with q | q
  · exact h value slice pins s σ H x y v u Q I rx ry q hs
  · exact h' value slice pins s σ H x y v u Q I rx ry q hs
theorem MtR.or {id : String} {r r' : V → List V → Hp → VK → Prop} (h : MtR X id r) (h' : MtR X id r') : MtR X id (fun x xs H Q => r x xs H Q ∨ r' x xs H Q) := by
  intro pins s σ H x xs v us Q I rx rs q
  rcases q with q | q
  · exact h pins s σ H x xs v us Q I rx rs q
  · exact h' pins s σ H x xs v us Q I rx rs q
/-- a[b] -/
theorem pe_ix {r : R2} (hr : IxR X r) (ha : PE X a ta) (hb : PE X b tb) (hs : PlainIx b) : PE X (.Subscript a b pos) (tOp r ta tb) := by
  intro pins s σ H Q I h
  exact Subscript_ (binT ha hb I h fun v u s2 x y H2 I2 rx ry q => hr a b pins s2 σ H2 x y v u Q I2 rx ry q (hs _ _))

def rIxL (K : PySem.W.Frag) : R2 := fun x y H Q => ∃ p xs i v, x = .ref p ∧ y = .int i ∧ SqL K H p xs ∧ atI xs i = some v ∧ Q v H
def rIxT (K : PySem.W.Frag) : R2 := fun x y H Q => ∃ p xs i v, x = .ref p ∧ y = .int i ∧ SqT K H p xs ∧ atI xs i = some v ∧ Q v H
def rIxS : R2 := fun x y H Q => ∃ z i c, x = .str z ∧ y = .int i ∧ z.length ≤ sizeLine ∧ atI z.cps.toList i = some c ∧ Q (.str ⟨#[c]⟩) H
theorem ix_list : IxR X (rIxL X.K) := by
  intro value slice pins s σ H x y v u Q I rx ry h hs
  obtain ⟨p, xs, i, z, rfl, rfl, hq, he, q⟩ := h
  cases rx
  obtain ⟨t, rfl⟩ := ry
  obtain ⟨its, r, pl, hz⟩ := I.list hq
  obtain ⟨j, h1, h2, h3, h4, h5⟩ := atI_get he
  obtain ⟨w, ew, rw'⟩ := r.get h2
  have hl := r.length
  have hn := line63
  have fin : EP X pins σ Q w s := ⟨z, H, I, rw', q⟩
  by_cases h0 : 0 ≤ i
  · have hj : i.toNat = j := by
      rw [seqIndex_of h0 h5] at h1
      exact Option.some.inj h1
    exact item_listR pl.isList h0 (by omega) (by rw [hj]; simpa using ew) fin hs
  · have hj : (i + (its.toArray.size : Int)).toNat = j := by
      rw [seqIndex_neg (by omega) h4] at h1
      rw [List.size_toArray, ← hl]
      exact Option.some.inj h1
    exact subscriptTail_builtinR (x := w) pl.isList.typeIs slot_list_getitem.lookup
      (wpAny_getItem_list_neg (Q := fun r s' => r = w ∧ EP X pins σ Q r s') pl.isList (by omega) (by rw [List.size_toArray] <;> omega) (by omega) (by rw [hj]; simpa using ew) ⟨rfl, fin⟩) hs
theorem ix_tup : IxR X (rIxT X.K) := by
  intro value slice pins s σ H x y v u Q I rx ry h hs
  obtain ⟨p, xs, i, z, rfl, rfl, hq, he, q⟩ := h
  cases rx
  obtain ⟨t, rfl⟩ := ry
  obtain ⟨its, r, pl, hz⟩ := I.tuple hq
  obtain ⟨j, h1, h2, h3, h4, h5⟩ := atI_get he
  obtain ⟨w, ew, rw'⟩ := r.get h2
  have hl := r.length
  have hn := line63
  have fin : EP X pins σ Q w s := ⟨z, H, I, rw', q⟩
  exact subscriptTail_builtinR (x := w) pl.typeIs slot_tuple_getitem.lookup
    (getItem_tuple (j := j) (Q := fun r s' => r = w ∧ EP X pins σ Q r s') pl (by omega) (by omega) (by rw [List.size_toArray, ← hl]; exact h1) (by simpa using ew) ⟨rfl, fin⟩) hs
theorem ix_str : IxR X rIxS := by
  intro value slice pins s σ H x y v u Q I rx ry h hs
  obtain ⟨z, i, c, rfl, rfl, hz, he, q⟩ := h
  obtain ⟨t, rfl⟩ := rx
  obtain ⟨t', rfl⟩ := ry
  obtain ⟨j, h1, h2, h3, h4, h5⟩ := atI_get he
  have hl : z.cps.toList.length = z.length := by simp [Str.length]
  rw [hl] at h1 h4 h5
  have hn := line63
  exact tail_any (typeIs_str s z t) slot_str_getitem.lookup (getItem_str (c := c) (by
    have e1 : decide (i < -(2 ^ 63 : Int)) = false := decide_eq_false (by omega)
    have e2 : decide (i ≥ 2 ^ 63) = false := decide_eq_false (by omega)
    rw [e1, e2, Bool.or_false]) (by rw [h1]; simpa using h2) ⟨.str ⟨#[c]⟩, H, I.tok _, ⟨_, rfl⟩, q⟩) hs
/-- list, tuple or str -/
def rIx (K : PySem.W.Frag) : R2 := fun x y H Q => rIxL K x y H Q ∨ rIxT K x y H Q ∨ rIxS x y H Q
theorem ix_seq : IxR X (rIx X.K) := ix_list.or (ix_tup.or ix_str)

/-! ### xs[i] = v, any sign -/
/-- the list's object behind a store -/
theorem mapSeq_set (its : List Value) (n j : Nat) (u : Value) : Obj.mapSeq (·.setIfInBounds j u) { cls := .type "list", data := .seq its.toArray n } = { cls := .type "list", data := .seq (its.set j u).toArray n } := by
  simp [Obj.mapSeq]
theorem Inv.lst {pins : List (Addr × Obj)} {σ : St} {H : Hp} {s : Shared} {p : Addr} {xs : List V} (I : Inv X pins σ H s) (h : H p = some (.lst xs)) :
    ∃ (its : List Value) (n : Nat), Vals xs its ∧ s.heap.get? p = some { cls := .type "list", data := .seq its.toArray n } ∧ xs.length ≤ sizeLine := by
  obtain ⟨z, its, n, r, e⟩ := I.hok p _ h
  exact ⟨its, n, r, e, z⟩
/-- the list at p is written by an update of its object -/
theorem Inv.lstUpd {pins : List (Addr × Obj)} {σ : St} {H : Hp} {s : Shared} {p : Addr} {xs ys : List V} {its its' : List Value} {n n' : Nat} {f : Obj → Obj} (I : Inv X pins σ H s) (h : H p = some (.lst xs))
    (ho : s.heap.get? p = some { cls := .type "list", data := .seq its.toArray n }) (hf : f { cls := .type "list", data := .seq its.toArray n } = { cls := .type "list", data := .seq its'.toArray n' }) (r : Vals ys its') (hz : ys.length ≤ sizeLine) (t : Nat) :
    Inv X pins σ (upd H p (.lst ys)) { s with heap := s.heap.update p f, toks := t } := by
  have e : (s.heap.update p f).get? p = some { cls := .type "list", data := .seq its'.toArray n' } := by
    rw [Heap.get?_update_self f ho (by rw [hf] <;> rfl), hf]
  refine I.write (x := p) (e := p) (by rw [h]; trivial) (.inl rfl) (fun b u hb q => (Heap.get?_update_other _ _ (Ne.symm hb)).trans q) ⟨_, e⟩ ?_
  exact ⟨hz, its', n', r, e⟩
def rSetL : V → V → V → Hp → (Hp → Prop) → Prop := fun o i v H Q => ∃ p xs k j, o = .ref p ∧ i = .int k ∧ H p = some (.lst xs) ∧ ixN xs.length k = some j ∧ Q (upd H p (.lst (xs.set j v)))
theorem set_list : PSet X rSetL := by
  intro pins s σ H o i v ov iv u Q I ro ri rv h
  obtain ⟨p, xs, k, j, rfl, rfl, hp, hj, q⟩ := h
  cases ro
  obtain ⟨t, rfl⟩ := ri
  obtain ⟨its, n, r, ho, hz⟩ := I.lst hp
  obtain ⟨h1, h2, h3, h4⟩ := ixN_seq hj
  have hl := r.length
  have hn := line63
  have I' : Inv X pins σ (upd H p (.lst (xs.set j v))) { s with heap := s.heap.update p (Obj.mapSeq (·.setIfInBounds j u)) } :=
    I.lstUpd hp ho (mapSeq_set its n j u) (r.set rv j) (by rw [List.length_set]; exact hz) s.toks
  by_cases h0 : 0 ≤ k
  · have hk : k.toNat = j := by
      rw [seqIndex_of h0 h4] at h1
      exact Option.some.inj h1
    exact PySem.W.ki_setAt ho h0 (by omega) (by rw [List.size_toArray, ← hl]; exact h4) (by rw [hk]; exact ⟨_, I', q⟩)
  · have hk : (k + (its.toArray.size : Int)).toNat = j := by
      rw [seqIndex_neg (by omega) h3] at h1
      rw [List.size_toArray, ← hl]
      exact Option.some.inj h1
    exact PySem.W.ki_setBack ho (by omega) (by rw [List.size_toArray, ← hl]; exact h3) (by omega) (by rw [hk]; exact ⟨_, I', q⟩)

/-! ### slices -/
theorem slice_bounds (lo hi : Option Int) (n : Nat) : (sliceBounds lo hi none n).1 = ((HT.sIx n 0 lo : Nat) : Int) ∧ (sliceBounds lo hi none n).2.1 = ((HT.sIx n n hi : Nat) : Int) ∧ (sliceBounds lo hi none n).2.2 = 1 := by
  refine ⟨?_, ?_, rfl⟩
  · cases lo with
    | none => simp [sliceBounds, HT.sIx]
    | some i =>
      simp only [sliceBounds, HT.sIx, Option.getD_none, show (1 : Int) > 0 by decide, if_true]
      by_cases h : i < 0
      · simp only [h, if_true] <;> omega
      · simp only [h, if_false] <;> omega
  · cases hi with
    | none => simp [sliceBounds, HT.sIx]
    | some i =>
      simp only [sliceBounds, HT.sIx, Option.getD_none, show (1 : Int) > 0 by decide, if_true]
      by_cases h : i < 0
      · simp only [h, if_true] <;> omega
      · simp only [h, if_false] <;> omega
theorem slicePick_cut (its : List Value) (lo hi : Option Int) : slicePick its.toArray lo hi none = ((its.drop (HT.sIx its.length 0 lo)).take (HT.sIx its.length its.length hi - HT.sIx its.length 0 lo)).toArray := by
  obtain ⟨h1, h2, h3⟩ := slice_bounds lo hi its.toArray.size
  unfold slicePick
  rw [h1, h2, h3]
  simp only [sliceRange_one, pick_run, List.size_toArray] <;> rfl
/-- xs[lo:hi] of a list: a new list -/
def rSlL (K : PySem.W.Frag) : V → Option Int → Option Int → Hp → VK → Prop := fun x lo hi H Q => ∃ a xs, x = .ref a ∧ SqL K H a xs ∧ ∀ p, H p = none → Q (.ref p) (upd H p (.lst (cutV xs lo hi)))
theorem sl_list : SlR X (rSlL X.K) := by
  intro pins s σ H x v vl vu lo hi sl Q I rx hs pl pu h
  obtain ⟨a, xs, rfl, hx, q⟩ := h
  cases rx
  obtain ⟨its, r, ht, hz⟩ := I.list hx
  have hlen := r.length
  refine ⟨"list", _, slot_list_getitem.lookup, ht.isList.typeIs, ?_⟩
  refine wpAny_getItem_list_slice ht.isList hs pl pu .none (by simp) ?_ (by rw [List.size_toArray] <;> omega)
  rw [slicePick_cut, ← hlen]
  refine ⟨.ref s.heap.objs.size, _, I.laid (t' := s.toks) (o := .lst (cutV xs lo hi)) (fun b ob q => Heap.get?_push_of_some _ q) (Nat.le_refl _) ?_, rfl, q _ (I.hok.fresh (Nat.le_refl _))⟩
  exact ⟨Nat.le_trans (cutV_length xs lo hi) hz, _, 0, (r.drop (HT.sIx xs.length 0 lo)).take (HT.sIx xs.length xs.length hi - HT.sIx xs.length 0 lo), Heap.get?_push_size _ rfl⟩

/-! ### in, not in: flat items -/
def flatV : V → Bool
  | .non => true
  | .bl _ => true
  | .int _ => true
  | .str _ => true
  | _ => false
/-- == of flat values -/
def eqV : V → V → Bool
  | .non, .non => true
  | .bl a, .bl b => a == b
  | .bl a, .int b => (if a then 1 else 0) == b
  | .int a, .bl b => a == (if b then 1 else 0)
  | .int a, .int b => a == b
  | .str a, .str b => a == b
  | _, _ => false
theorem eqAt_V {A : Around} {s : Shared} {y x : V} {u v : Value} (ry : RelV y u) (rx : RelV x v) (fy : flatV y = true) (fx : flatV x = true) : SeqAt.EqAt A s u v (eqV y x) := by
  cases y with
  | non =>
    cases ry
    cases x with
    | non => cases rx; exact SeqAt.EqAt.same _
    | bl b => cases rx; exact SeqAt.EqAt.none_bool b
    | int b => obtain ⟨t, rfl⟩ := rx; exact SeqAt.EqAt.none_int b t
    | str b => obtain ⟨t, rfl⟩ := rx; exact SeqAt.EqAt.none_str b t
    | _ => exact absurd (show false = true from fx) Bool.false_ne_true
  | bl a =>
    cases ry
    cases x with
    | non => cases rx; exact SeqAt.EqAt.bool_none a
    | bl b => cases rx; exact SeqAt.EqAt.bool_bool a b
    | int b => obtain ⟨t, rfl⟩ := rx; exact SeqAt.EqAt.bool_int a b t
    | str b => obtain ⟨t, rfl⟩ := rx; exact SeqAt.EqAt.bool_str a b t
    | _ => exact absurd (show false = true from fx) Bool.false_ne_true
  | int a =>
    obtain ⟨t', rfl⟩ := ry
    cases x with
    | non => cases rx; exact SeqAt.EqAt.int_none a t'
    | bl b => cases rx; exact SeqAt.EqAt.int_bool a t' b
    | int b => obtain ⟨t, rfl⟩ := rx; exact SeqAt.EqAt.int_int a t' b t
    | str b => obtain ⟨t, rfl⟩ := rx; exact SeqAt.EqAt.int_str a t' b t
    | _ => exact absurd (show false = true from fx) Bool.false_ne_true
  | str a =>
    obtain ⟨t', rfl⟩ := ry
    cases x with
    | non => cases rx; exact SeqAt.EqAt.str_none a t'
    | bl b => cases rx; exact SeqAt.EqAt.str_bool a t' b
    | int b => obtain ⟨t, rfl⟩ := rx; exact SeqAt.EqAt.str_int a t' b t
    | str b => obtain ⟨t, rfl⟩ := rx; exact SeqAt.EqAt.str_str a t' b t
    | _ => exact absurd (show false = true from fx) Bool.false_ne_true
  | _ => exact absurd (show false = true from fy) Bool.false_ne_true
/-- the items' answers, read off the values (a value's own answer does not lean on its token) -/
def eqU (x : V) (u : Value) : Bool := match u with
  | .none => eqV .non x
  | .bool b => eqV (.bl b) x
  | .int i _ => eqV (.int i) x
  | .str z _ => eqV (.str z) x
  | _ => false
theorem eqU_of {x y : V} {u : Value} (r : RelV y u) (f : flatV y = true) : eqU x u = eqV y x := by
  cases y with
  | non => cases r; rfl
  | bl b => cases r; rfl
  | int i => obtain ⟨t, rfl⟩ := r; rfl
  | str z => obtain ⟨t, rfl⟩ := r; rfl
  | _ => exact absurd (show false = true from f) Bool.false_ne_true
theorem any_eqU {x : V} : ∀ {xs : List V} {us : List Value}, Vals xs us → xs.all flatV = true → us.any (eqU x) = xs.any fun y => eqV y x
  | _, _, .nil, _ => rfl
  | y :: xs, u :: us, .cons r t, f => by
    rw [List.all_cons, Bool.and_eq_true] at f
    rw [List.any_cons, List.any_cons, eqU_of r f.1, any_eqU t f.2]
theorem mem_eqAt {A : Around} {s : Shared} {x : V} {v : Value} (rx : RelV x v) (fx : flatV x = true) : ∀ {xs : List V} {us : List Value}, Vals xs us → xs.all flatV = true → ∀ u ∈ us, SeqAt.EqAt A s u v (eqU x u)
  | _, _, .nil, _ => fun u hu => by cases hu
  | y :: xs, u :: us, .cons r t, f => fun u' hu => by
    rw [List.all_cons, Bool.and_eq_true] at f
    rcases List.mem_cons.mp hu with rfl | hu
    · rw [eqU_of r f.1]; exact eqAt_V r rx f.1 fx
    · exact mem_eqAt rx fx t f.2 u' hu
def inV (x : V) (xs : List V) : Bool := xs.any fun y => eqV y x
/-- x in a list or tuple of flat items -/
def rIn (K : PySem.W.Frag) (neg : Bool) : R2 := fun x y H Q => ∃ p xs, y = .ref p ∧ (SqL K H p xs ∨ SqT K H p xs) ∧ flatV x = true ∧ xs.all flatV = true ∧ Q (.bl (if neg then !inV x xs else inV x xs)) H
theorem op_in_seq : OpR X (compareOp .In) (rIn X.K false) := by
  intro pins s σ H x y v u Q I rx ry h
  obtain ⟨p, xs, rfl, hq, fx, fs, q⟩ := h
  cases ry
  rcases hq with hq | hq
  · obtain ⟨its, r, pl, hz⟩ := I.list hq
    refine SeqAt.in_listAt (eqU x) pl.isList (fun w hw => mem_eqAt rx fx r fs w (by simpa using hw)) ⟨.bl _, H, I, rfl, ?_⟩
    rw [show its.toArray.any (eqU x) = its.any (eqU x) by simp, any_eqU r fs]
    exact q
  · obtain ⟨its, r, pl, hz⟩ := I.tuple hq
    refine SeqAt.in_tupleAt (eqU x) pl (fun w hw => mem_eqAt rx fx r fs w (by simpa using hw)) ⟨.bl _, H, I, rfl, ?_⟩
    rw [show its.toArray.any (eqU x) = its.any (eqU x) by simp, any_eqU r fs]
    exact q
/-! ### len, list(x), tuple(x) of any list or tuple that is read -/
theorem CallR.or {f : Value} {r r' : List V → Hp → VK → Prop} (h : CallR X f r) (h' : CallR X f r') : CallR X f (fun xs H Q => r xs H Q ∨ r' xs H Q) := by
  intro pins s σ H xs us Q I rs q
  rcases q with q | q
  · exact h pins s σ H xs us Q I rs q
  · exact h' pins s σ H xs us Q I rs q
theorem call_list_of : CallR X (.type "list") (fun xs H Q => ∃ p ys, xs = [.ref p] ∧ (SqL X.K H p ys ∨ SqT X.K H p ys) ∧ ∀ l, H l = none → Q (.ref l) (upd H l (.lst ys))) := by
  intro pins s σ H xs us Q I r h
  obtain ⟨p, ys, rfl, hq, q⟩ := h
  obtain ⟨u, rfl, rx⟩ := vals1 r
  cases rx
  have fin : ∀ (its : List Value), Vals ys its → ys.length ≤ sizeLine → ∀ (h' : Heap) (c' : Nat), (∀ b o', s.heap.get? b = some o' → h'.get? b = some o') →
      h'.get? s.heap.objs.size = some { cls := .type "list", dict := none, data := .seq its.toArray c', slots := #[] } → EP X pins σ Q (.ref s.heap.objs.size) { s with heap := h' } := fun its r' hz h' c' kp e =>
    ⟨.ref s.heap.objs.size, _, I.laid (t' := s.toks) kp (Nat.le_refl _) (show ObjOk X.prog X.w _ h' _ (.lst ys) from ⟨hz, its, c', r', e⟩), rfl, q _ (I.hok.fresh (Nat.le_refl _))⟩
  rcases hq with hq | hq
  · obtain ⟨its, r', pl, hz⟩ := I.list hq
    have hlen := r'.length
    obtain ⟨o, ho, hc, n, hd⟩ := pl.isList
    exact call_list_seq p (.inl rfl) ho hc hd (fun h' c' kp e => fin its r' hz h' c' kp e) (by simp only [List.size_toArray] <;> omega)
  · obtain ⟨its, r', pl, hz⟩ := I.tuple hq
    have hlen := r'.length
    obtain ⟨o, ho, hc, n, hd⟩ := pl
    exact call_list_seq p (.inr rfl) ho hc hd (fun h' c' kp e => fin its r' hz h' c' kp e) (by simp only [List.size_toArray] <;> omega)
theorem call_tuple_of : CallR X (.type "tuple") (fun xs H Q => ∃ p ys, xs = [.ref p] ∧ ((SqL X.K H p ys ∧ ∀ l, H l = none → Q (.ref l) (upd H l (.tup ys))) ∨ (SqT X.K H p ys ∧ Q (.ref p) H))) := by
  intro pins s σ H xs us Q I r h
  obtain ⟨p, ys, rfl, h⟩ := h
  obtain ⟨u, rfl, rx⟩ := vals1 r
  cases rx
  rcases h with ⟨hq, q⟩ | ⟨hq, q⟩
  · obtain ⟨its, r', pl, hz⟩ := I.list hq
    have hlen := r'.length
    refine call_tuple_list pl.isList (fun h' kp => ?_) (by simp only [List.size_toArray] <;> omega)
    have I1 : Inv X pins σ H { s with heap := h' } := I.kept (t' := s.toks) kp
    have I2 : Inv X pins σ (upd H h'.objs.size (.tup ys)) { s with heap := h'.push { cls := .type "tuple", data := .seq its.toArray } } :=
      I1.laid (t' := s.toks) (fun b o e => Heap.get?_push_of_some _ e) (Nat.le_refl _) (show ObjOk X.prog X.w _ _ _ (.tup ys) from ⟨hz, its, r', IsTup.new _ _⟩)
    exact ⟨.ref h'.objs.size, _, I2, rfl, q _ (I1.hok.fresh (Nat.le_refl _))⟩
  · obtain ⟨its, r', pl, hz⟩ := I.tuple hq
    exact call_tuple_same pl ⟨.ref p, H, I, rfl, q⟩

/-! ### the call of a builtin's method: o.m(..) -/
/-- the value is of that builtin type -/
def tyV (K : PySem.W.Frag) (T : String) (x : V) (H : Hp) : Prop := match x with
  | .str _ => T = "str"
  | .int _ => T = "int"
  | .ref p => (T = "list" ∧ ∃ xs, SqL K H p xs) ∨ (T = "tuple" ∧ ∃ o, K.lookup p = some o ∧ o.cls = .type "tuple" ∧ o.dict = none) ∨
      (T = "dict" ∧ ((∃ kvs, H p = some (.dK kvs)) ∨ ∃ kvs, H p = some (.dT kvs))) ∨ (T = "set" ∧ ∃ S n, H p = some (.set S n))
  | _ => False
theorem tyV_is {pins : List (Addr × Obj)} {σ : St} {H : Hp} {s : Shared} {T : String} {x : V} {v : Value} (I : Inv X pins σ H s) (r : RelV x v) (ty : tyV X.K T x H) :
    s.TypeIs v T ∧ ∀ a, v = .ref a → ∃ ob, s.heap.get? a = some ob ∧ ob.dict = none := by
  cases x with
  | str z =>
    obtain ⟨t, rfl⟩ := r
    cases (show T = "str" from ty)
    exact ⟨typeIs_str s z t, fun _ e => nomatch e⟩
  | int i =>
    obtain ⟨t, rfl⟩ := r
    cases (show T = "int" from ty)
    exact ⟨typeIs_int s i t, fun _ e => nomatch e⟩
  | ref p =>
    cases r
    rcases ty with ⟨rfl, xs, hq⟩ | ⟨rfl, o, hk, hc, hd⟩ | ⟨rfl, hk⟩ | ⟨rfl, S, n, hk⟩
    · obtain ⟨its, _, pl, _⟩ := I.list hq
      refine ⟨pl.isList.typeIs, fun a e => ?_⟩
      cases e
      obtain ⟨o, n, e, c, hd, _⟩ := pl
      exact ⟨o, e, hd⟩
    · refine ⟨⟨o, I.kIn p o hk, hc⟩, fun a e => ?_⟩
      cases e
      exact ⟨o, I.kIn _ o hk, hd⟩
    · have z : ∃ o, s.heap.get? p = some o ∧ o.ExactDict := by
        rcases hk with ⟨kvs, hk⟩ | ⟨kvs, hk⟩
        · obtain ⟨_, _, _, _, o, _, _, e, ex, _⟩ := I.hok p _ hk
          exact ⟨o, e, ex⟩
        · obtain ⟨_, _, _, _, o, _, _, e, ex, _⟩ := I.hok p _ hk
          exact ⟨o, e, ex⟩
      obtain ⟨o, e, ex⟩ := z
      refine ⟨⟨o, e, ex.1⟩, fun a e2 => ?_⟩
      cases e2
      exact ⟨o, e, ex.2.1⟩
    · obtain ⟨o, _, _, _, e, ex, _⟩ := I.hok p _ hk
      refine ⟨⟨o, e, ex.1⟩, fun a e2 => ?_⟩
      cases e2
      exact ⟨o, e, ex.2.1⟩
  | _ => exact False.elim ty
def tBM (K : PySem.W.Frag) (T : String) (r : V → List V → Hp → VK → Prop) (to : TE) (t : TA) : TE := fun σ H Q => to σ H fun x H1 => tyV K T x H1 ∧ t σ H1 fun xs H2 => r x xs H2 Q
variable {o e : Expr} {es : List Expr} {to : TE} {t : TA} {name : Str} {apos cpos : Pos} {T id : String} {r : V → List V → Hp → VK → Prop}
theorem pe_bm (pa : PlainAttrs T) (slot : Slot T name id) (hty : typeOf (.builtin id) = pure (.type "method_descriptor")) (hm : MtR X id r) (ho : PE X o to) (ha : PA X (e :: es) t)
    (hbase : attributeBase o name X.env (eval o X.env) = eval o X.env := by rfl)
    (hfew : ((backTo cpos (starEach (e :: es) X.env)).all (fun x => !x.1) && (backToKw cpos (keywordEach [] X.env)).all (fun x => x.1.isSome)
      && decide ((e :: es).length + ([] : List Keyword).length + (if ([] : List Keyword).isEmpty then 0 else 1) < 30)) = true := by rfl)
    (hline : (apos.endLine == cpos.line) = true := by rfl) (hs : starEach (e :: es) X.env = (false, eval e X.env) :: starEach es X.env := by rfl) (hplain : (backTo cpos (starEach es X.env)).any (·.1) = false := by rfl) :
    PE X (.Call (.Attribute o name apos) (e :: es) [] cpos) (tBM X.K T r to t) := by
  intro pins s σ H Q I h
  refine wpAny_Call_method_late hbase hfew hline rfl (thn (ho pins s σ H _ I h) fun v s1 ⟨x, H1, I1, r1, ty, q1⟩ => ?_)
  obtain ⟨h1, h2⟩ := tyV_is I1 r1 ty
  refine ⟨T, id, pa, slot, hty, h1, h2, ?_⟩
  have hA := ha cpos pins s1 σ H1 _ I1 q1
  rw [hs] at hA ⊢
  refine Calls.callWith_builtin (by show (false || (backTo cpos (starEach es X.env)).any (·.1)) = false; rw [hplain] <;> rfl) (Calls.evalArgs_plain ?_)
  exact thn hA fun us s2 ⟨vs, H2, I2, r2, q2⟩ => hm pins s2 σ H2 x vs v us Q I2 r1 r2 q2
/- xs.append(e), list.index on a module's tuple .. are MtR facts of 06m -/
end
end L2

namespace L2
open PySem PySem.Spec PyProof.Rows

def MtM (X : Cx) (id : String) (r : V → List V → Hp → VK → Prop) : Prop :=
  ∀ (pins : List (Addr × Obj)) (s : Shared) (σ : St) (H : Hp) (x : V) (xs : List V) (v : Value) (us : List Value) (Q : VK), Inv X pins σ H s → RelV x v → Vals xs us → r x xs H Q →
    wpAny (model X.prog X.w) X.A (call (.builtin id) (v :: us)) (EP X pins σ Q) X.xe s

/-! ### lists of values -/
theorem Vals.one : ∀ {x : V} {us : List Value}, Vals [x] us → ∃ u, us = [u] ∧ RelV x u
  | _, _, .cons r .nil => ⟨_, rfl, r⟩
theorem Vals.dropLast {xs : List V} {us : List Value} (h : Vals xs us) : Vals xs.dropLast us.dropLast := by
  induction h with
  | nil => exact .nil
  | cons r t ih =>
    cases t with
    | nil => exact .nil
    | cons q t' => exact .cons r ih
theorem Vals.eraseIdx : ∀ {xs : List V} {us : List Value} (i : Nat), Vals xs us → Vals (xs.eraseIdx i) (us.eraseIdx i)
  | _, _, _, .nil => .nil
  | _, _, 0, .cons _ t => t
  | _, _, i + 1, .cons r t => .cons r (Vals.eraseIdx i t)
theorem Vals.reverse {xs : List V} {us : List Value} (h : Vals xs us) : Vals xs.reverse us.reverse := by
  induction h with
  | nil => exact .nil
  | cons r t ih => rw [List.reverse_cons, List.reverse_cons]; exact Vals.append ih (.cons r .nil)
theorem Vals.rep {xs : List V} {us : List Value} (h : Vals xs us) : ∀ k : Nat, Vals (List.replicate k xs).flatten (List.replicate k us).flatten
  | 0 => .nil
  | k + 1 => by
    rw [List.replicate_succ, List.replicate_succ, List.flatten_cons, List.flatten_cons]
    exact Vals.append h (Vals.rep h k)
theorem foldl_rep (its : List Value) : ∀ (k : Nat) (acc : List Value),
    List.foldl (fun x1 x2 => x1 ++ x2) acc.toArray (List.replicate k its.toArray) = (acc ++ (List.replicate k its).flatten).toArray
  | 0, acc => by simp
  | k + 1, acc => by
    have e : acc.toArray ++ its.toArray = (acc ++ its).toArray := by simp
    have e2 : (acc ++ its) ++ (List.replicate k its).flatten = acc ++ (List.replicate (k + 1) its).flatten := by
      rw [List.replicate_succ, List.flatten_cons, List.append_assoc]
    rw [← e2, ← foldl_rep its k (acc ++ its), ← e, List.replicate_succ, List.foldl_cons]

section
variable {X : Cx} {pins : List (Addr × Obj)} {σ : St} {H : Hp} {s : Shared} {l b : Addr} {xs ys zs : List V}

/-! ### the two steps: a tracked list is rewritten, a new list is laid -/
theorem Inv.lset {its its' : List Value} {n : Nat} {f : Array Value → Array Value} {t' : Nat} (I : Inv X pins σ H s) (hH : H l = some (.lst xs))
    (e : s.heap.get? l = some { cls := .type "list", data := .seq its.toArray n }) (hf : f its.toArray = its'.toArray) (hv : Vals ys its') (hz : ys.length ≤ sizeLine) :
    Inv X pins σ (upd H l (.lst ys)) { s with heap := s.heap.update l (Obj.mapSeq f), toks := t' } := by
  have q := PySem.IsL.update e f
  rw [hf] at q
  refine I.write (x := l) (e := l) (by rw [hH]; exact trivial) (.inl rfl) (fun b' u hb hu => (Heap.get?_update_other s.heap (Obj.mapSeq f) (Ne.symm hb)).trans hu) ⟨_, q⟩ ?_
  exact ⟨hz, its', _, hv, q⟩
theorem Inv.lnew {its : List Value} {t' : Nat} (I : Inv X pins σ H s) (hv : Vals ys its) (hz : ys.length ≤ sizeLine) :
    Inv X pins σ (upd H s.heap.objs.size (.lst ys)) { s with heap := s.heap.push { cls := .type "list", data := .seq its.toArray }, toks := t' } :=
  I.laid (fun _ _ q => Heap.get?_push_of_some _ q) (Nat.le_refl _) ⟨hz, its, 0, hv, Heap.get?_push_size _ rfl⟩
theorem Inv.fresh (I : Inv X pins σ H s) : H s.heap.objs.size = none := I.hok.fresh (Nat.le_refl _)
theorem Inv.lstM (I : Inv X pins σ H s) (hH : H l = some (.lst xs)) : xs.length ≤ sizeLine ∧ ∃ (its : List Value) (n : Nat), Vals xs its ∧ xs.length = its.length ∧ s.heap.get? l = some { cls := .type "list", data := .seq its.toArray n } := by
  obtain ⟨z, its, n, r, e⟩ := I.hok l _ hH
  exact ⟨z, its, n, r, r.length, e⟩

theorem notLongL {n : Nat} (h : n ≤ sizeLine) : Builtin.List.listTooLong n = false := by
  unfold Builtin.List.listTooLong
  exact decide_eq_false (by omega)
end

section
variable {X : Cx}

/-! ### methods -/
def rAppend : V → List V → Hp → VK → Prop := fun x vs H Q => ∃ l xs y, x = .ref l ∧ vs = [y] ∧ H l = some (.lst xs) ∧ xs.length < sizeLine ∧ Q .non (upd H l (.lst (xs ++ [y])))
theorem mt_append : MtM X "list.append" rAppend := by
  intro pins s σ H x vs v us Q I rx rv h
  obtain ⟨l, xs, y, rfl, rfl, hH, hz, q⟩ := h
  cases rx
  obtain ⟨u, rfl, ru⟩ := rv.one
  obtain ⟨z, its, n, r, hl, e⟩ := I.lstM hH
  refine call_meets F.slot_list_append ⟨_, e, rfl⟩ F.entry_list_append (F.args_list_append_2 _ _) (PySem.list_append l its.toArray n u (by rw [List.size_toArray]; omega)) ⟨e, ?_⟩
  refine ⟨.non, _, I.lset (its' := its ++ [u]) hH e (by simp) (r.append (.cons ru .nil)) ?_, rfl, q⟩
  rw [List.length_append, List.length_singleton]
  omega

/-! ### list + list, list += list, list * int -/
def rCat : R2 := fun x y H Q => ∃ l b xs zs, x = .ref l ∧ y = .ref b ∧ H l = some (.lst xs) ∧ H b = some (.lst zs) ∧ xs.length + zs.length ≤ sizeLine ∧ ∀ p, H p = none → Q (.ref p) (upd H p (.lst (xs ++ zs)))
theorem op_cat : OpR X (binaryOp .Add) rCat := by
  intro pins s σ H x y v u Q I rx ry h
  obtain ⟨l, b, xs, zs, rfl, rfl, hH, hB, hz, q⟩ := h
  cases rx
  cases ry
  obtain ⟨z, its, n, r, hl, e⟩ := I.lstM hH
  obtain ⟨z2, its2, n2, r2, hl2, e2⟩ := I.lstM hB
  refine PySem.P.add_list e e2 ?_ (by rw [List.size_toArray, List.size_toArray]; omega)
  have ea : its.toArray ++ its2.toArray = (its ++ its2).toArray := by simp
  rw [ea]
  exact ⟨.ref _, _, I.lnew (t' := s.toks) (r.append r2) (by rw [List.length_append]; omega), rfl, q _ I.fresh⟩
/-- a list times an int (a negative one is nothing) -/
def rRep : R2 := fun x y H Q => ∃ l k xs, x = .ref l ∧ y = .int k ∧ H l = some (.lst xs) ∧ -(2 ^ 63) ≤ k ∧ k < 2 ^ 63 ∧ xs.length * k.toNat ≤ sizeLine ∧
  ∀ p, H p = none → Q (.ref p) (upd H p (.lst (List.replicate k.toNat xs).flatten))
theorem len_rep {α : Type} (xs : List α) (k : Nat) : (List.replicate k xs).flatten.length = k * xs.length := by
  induction k with
  | zero => simp
  | succ k ih => rw [List.replicate_succ, List.flatten_cons, List.length_append, ih, Nat.succ_mul, Nat.add_comm]
theorem op_rep : OpR X (binaryOp .Mult) rRep := by
  intro pins s σ H x y v u Q I rx ry h
  obtain ⟨l, k, xs, rfl, rfl, hH, h1, h2, hz, q⟩ := h
  cases rx
  obtain ⟨t, rfl⟩ := ry
  obtain ⟨z, its, n, r, hl, e⟩ := I.lstM hH
  have hlen : its.toArray.size * k.toNat ≤ sizeLine := by rw [List.size_toArray, ← hl]; exact hz
  have hcap : ¬ its.toArray.size * k.toNat > (2 ^ 63 - 1) / 8 := by
    have : (sizeLine : Nat) ≤ (2 ^ 63 - 1) / 8 := by decide
    omega
  have hfit : ¬ (!Builtin.List.listFitsIndex k) = true := by
    rw [fitsIndex_both h1 h2]
    exact Bool.false_ne_true
  have hlong : ¬ Builtin.List.listTooLong (its.toArray.size * k.toNat) = true := by
    rw [notLongL hlen]
    exact Bool.false_ne_true
  have hnew : List.foldl (fun x1 x2 => x1 ++ x2) #[] (List.replicate (if its.toArray.isEmpty = true then 0 else k.toNat) its.toArray) = (List.replicate k.toNat its).flatten.toArray := by
    have f0 : ∀ m : Nat, List.foldl (fun x1 x2 => x1 ++ x2) #[] (List.replicate m its.toArray) = (List.replicate m its).flatten.toArray := fun m => by
      have := foldl_rep its m []
      rw [List.nil_append] at this
      exact this
    rw [f0]
    cases its with
    | nil => simp
    | cons a r' => rw [if_neg (by simp)]
  refine wpAny_binaryOp_repeat_ref (T := "list") (U := "int") (by decide) ⟨_, e, rfl⟩ (fun s' => typeIs_int s' k t) noFill_list_mul F.fills_int_mul F.slot_int_rmul repeat_list F.slot_int_index.lookup
    (call_meets F.slot_int_rmul (typeIs_int s k t) F.entry_int_rmul (F.args_int_rmul_2 _ _) (int___rmul___int_list k t l its.toArray n)
      ⟨e, rfl, ⟨_, e, rfl⟩, call_meets F.slot_list_mul ⟨_, e, rfl⟩ F.entry_list_mul (F.args_list_mul_2 _ _) (AutoListH.list___mul___list_int_3 l its.toArray n k t hfit hcap hlong) ⟨e, ?_⟩⟩)
  rw [hnew]
  exact ⟨.ref _, _, I.lnew (t' := s.toks) (r.rep k.toNat) (by rw [len_rep, Nat.mul_comm]; exact hz), rfl, q _ I.fresh⟩

/-! ### del xs[i] -/
end

/-! ### xs[a:b] = ys -/
section
variable {prog : Program} {w : World} {A : Around} {E : Value → Shared → Prop} {s : Shared}
end

section
variable {X : Cx}
end
end L2

namespace L2
open PySem PySem.Spec PyProof.Rows

theorem Vals.ints : ∀ {ns : List Int} {us : List Value}, Vals (ns.map V.int) us → IntsAre us ns
  | [], us, h => by
    rw [List.map_nil] at h
    cases h
    exact IntsAre.nil
  | n :: ns, us, h => by
    rw [List.map_cons] at h
    cases h with
    | cons r t =>
      obtain ⟨k, rfl⟩ := r
      exact IntsAre.cons n k (Vals.ints t)
theorem Vals.strs : ∀ {xs : List Str} {us : List Value}, Vals (xs.map V.str) us → StrsAre us xs
  | [], us, h => by
    rw [List.map_nil] at h
    cases h
    exact StrsAre.nil
  | x :: xs, us, h => by
    rw [List.map_cons] at h
    cases h with
    | cons r t =>
      obtain ⟨k, rfl⟩ := r
      exact StrsAre.cons x k (Vals.strs t)
theorem Vals.ref1 {a : Addr} {us : List Value} (r : Vals [V.ref a] us) : us = [Value.ref a] := by
  cases r with
  | cons r t =>
    cases t
    cases r
    rfl
/-! ### the library's walks over a list of ints, kept objects alone -/
section
variable {prog : Program} {w : World} {A : Around} {E : Value → Shared → Prop} {s : Shared} {l : Addr} {its : List Value} {ns : List Int} {Q : Value → Shared → Prop}
end

/-! ### the calls, by values (CallR of 03t; MtR of 06l) -/
section
variable {X : Cx}
/-! sorted, sort (fewer than 64 items: the library's own bound) -/
end

/-! ### list.index, flat items -/
section
variable {X : Cx}
end

/-! ### type(x) of an own instance; is, is not of a module's class -/
section
variable {X : Cx}
end

/-! ### any(xs), all(xs) of a list of bools -/
section
variable {X : Cx}
end

/-! ### == and != of data at any depth: none, bools, ints, texts, lists, tuples -/
mutual
inductive Dp (K : PySem.W.Frag) (H : Hp) : V → PyData → Prop
  | non : Dp K H .non .none
  | bl (b : Bool) : Dp K H (.bl b) (.bool b)
  | int (i : Int) : Dp K H (.int i) (.int i)
  | str (x : Str) : Dp K H (.str x) (.str x)
  | lst {a : Addr} {xs : List V} {ds : List PyData} : SqL K H a xs → DpAll K H xs ds → Dp K H (.ref a) (.list ds)
  | tup {a : Addr} {xs : List V} {ds : List PyData} : SqT K H a xs → DpAll K H xs ds → Dp K H (.ref a) (.tuple ds)
inductive DpAll (K : PySem.W.Frag) (H : Hp) : List V → List PyData → Prop
  | nil : DpAll K H [] []
  | cons {v : V} {vs : List V} {d : PyData} {ds : List PyData} : Dp K H v d → DpAll K H vs ds → DpAll K H (v :: vs) (d :: ds)
end
section
variable {X : Cx} {pins : List (Addr × Obj)} {σ : St} {H : Hp} {s : Shared}
mutual
theorem Dp.reads (I : Inv X pins σ H s) : ∀ (d : PyData) (v : V) (u : Value), Dp X.K H v d → RelV v u → ∃ as, Reads s.heap u d as
  | .none, _, _, h, r => by
    cases h
    cases r
    exact ⟨_, Reads.none⟩
  | .bool b, _, _, h, r => by
    cases h
    cases r
    exact ⟨_, Reads.bool b⟩
  | .int i, _, _, h, r => by
    cases h
    obtain ⟨t, rfl⟩ := r
    exact ⟨_, Reads.int i t⟩
  | .str x, _, _, h, r => by
    cases h
    obtain ⟨t, rfl⟩ := r
    exact ⟨_, Reads.str x t⟩
  | .list ds, _, _, h, r => by
    cases h with
    | lst hs ha =>
      cases r
      obtain ⟨its, rv, ⟨o, n, ho, hc, _, hd⟩, _⟩ := I.list hs
      obtain ⟨as, hr⟩ := Dp.readsAll I ds _ its ha rv
      exact ⟨_, Reads.list ho hc hd hr⟩
  | .tuple ds, _, _, h, r => by
    cases h with
    | tup hs ha =>
      cases r
      obtain ⟨its, rv, ⟨o, ho, hc, n, hd⟩, _⟩ := I.tuple hs
      obtain ⟨as, hr⟩ := Dp.readsAll I ds _ its ha rv
      exact ⟨_, Reads.tuple ho hc hd hr⟩
  | .dict _, _, _, h, _ => by cases h
theorem Dp.readsAll (I : Inv X pins σ H s) : ∀ (ds : List PyData) (vs : List V) (us : List Value), DpAll X.K H vs ds → Vals vs us → ∃ as, ReadsAll s.heap us ds as
  | [], _, _, h, r => by
    cases h
    cases r
    exact ⟨_, ReadsAll.nil⟩
  | d :: ds, _, _, h, r => by
    cases h with
    | cons h1 h2 =>
      cases r with
      | cons r1 r2 =>
        obtain ⟨as, q1⟩ := Dp.reads I d _ _ h1 r1
        obtain ⟨bs, q2⟩ := Dp.readsAll I ds _ _ h2 r2
        exact ⟨_, ReadsAll.cons q1 q2⟩
end
end
section
variable {X : Cx}
def rEqD (K : PySem.W.Frag) : R2 := fun x y H Q => ∃ d e, Dp K H x d ∧ Dp K H y e ∧ SeqAt.shaped d = true ∧ SeqAt.shaped e = true ∧ Q (.bl (PyData.eqv d e)) H
def rNeD (K : PySem.W.Frag) : R2 := fun x y H Q => ∃ d e, Dp K H x d ∧ Dp K H y e ∧ SeqAt.shaped d = true ∧ SeqAt.shaped e = true ∧ Q (.bl (!PyData.eqv d e)) H
theorem op_eqD (hu : X.A.units + 64 < cLine) : OpR X (compareOp .Eq) (rEqD X.K) := by
  intro pins s σ H x y v u Q I rx ry h
  obtain ⟨d, e, hd, he, sd, se, q⟩ := h
  obtain ⟨as, r1⟩ := Dp.reads I d x v hd rx
  obtain ⟨bs, r2⟩ := Dp.reads I e y u he ry
  exact SeqAt.compareEq_shaped r1 r2 sd se hu ⟨.bl _, H, I, rfl, q⟩
theorem op_neD (hu : X.A.units + 64 < cLine) : OpR X (compareOp .NotEq) (rNeD X.K) := by
  intro pins s σ H x y v u Q I rx ry h
  obtain ⟨d, e, hd, he, sd, se, q⟩ := h
  obtain ⟨as, r1⟩ := Dp.reads I d x v hd rx
  obtain ⟨bs, r2⟩ := Dp.reads I e y u he ry
  exact SeqAt.compareNe_shaped r1 r2 sd se hu ⟨.bl _, H, I, rfl, q⟩
end
end L2

namespace L2
open PySem PySem.Spec PyProof.Rows
abbrev CellAt (h : Heap) (c : Addr) (v : Option Value) : Prop := h.IsCell c v
def relS (scope sc : Scope) : Scope :=
  { scope with names := scope.names.map fun (n, k) => if (k == .free && sc.kind == .function && sc.names.lookup n == some .cell) then (n, .cell) else (n, k) }

def cloFrom (cells : List (Str × Addr)) : List (Str × NameKind) → List (Str × Addr) → List (Str × Addr)
  | [], acc => acc
  | (n, k) :: r, acc => if k == .free then cloFrom cells r ((n, (cells.lookup n).getD 0) :: acc) else cloFrom cells r acc

theorem closure_loop (env : Env) (f : Str × NameKind → List (Str × Addr) → Sem (ForInStep (List (Str × Addr))))
    (hf : ∀ n k c, f (n, k) c = if k == .free then (do let a ← cellOf env n; pure (.yield ((n, a) :: c))) else pure (.yield c)) :
    ∀ (names : List (Str × NameKind)) (acc : List (Str × Addr)), (∀ y ∈ names, y.2 = .free → ∃ c, env.cells.lookup y.1 = some c) → forIn names acc f = pure (cloFrom env.cells names acc)
  | [], acc, _ => by rw [List.forIn_nil]; rfl
  | (n, k) :: r, acc, h => by
    rw [List.forIn_cons, hf]
    have ih := fun acc => closure_loop env f hf r acc fun y hy => h y (List.mem_cons_of_mem _ hy)
    unfold cloFrom
    by_cases hk : (k == NameKind.free) = true
    · rw [if_pos hk, if_pos hk]
      obtain ⟨c, hc⟩ := h (n, k) List.mem_cons_self (by simpa using hk)
      have e : cellOf env n = pure c := by unfold cellOf; rw [hc]
      rw [e]
      have e2 : (env.cells.lookup n).getD 0 = c := by rw [hc]; rfl
      rw [e2]
      exact ih _
    · rw [if_neg hk, if_neg hk]
      exact ih _
theorem closure_ok {scope : Scope} {env : Env} (h : ∀ y ∈ scope.names, y.2 = .free → ∃ c, env.cells.lookup y.1 = some c) : closureFor scope env = pure (cloFrom env.cells scope.names []) := by
  simp only [closureFor]
  rw [closure_loop env _ (fun n k c => rfl) scope.names [] h]
  rfl

theorem mem_lookup {α : Type} : ∀ {l : List (Str × α)} {n : Str} {c : α}, (n, c) ∈ l → ∃ c', l.lookup n = some c'
  | (k, v) :: r, n, c, h => by
    rw [List.lookup_cons]
    cases hb : n == k with
    | true => exact ⟨_, rfl⟩
    | false =>
      rcases List.mem_cons.mp h with e | h
      · cases e; simp at hb
      · exact mem_lookup h

theorem cloFrom_mem {cells : List (Str × Addr)} : ∀ {names : List (Str × NameKind)} {acc : List (Str × Addr)} {n : Str} {c : Addr}, (n, c) ∈ cloFrom cells names acc → (n, c) ∈ acc ∨ ((n, .free) ∈ names ∧ c = (cells.lookup n).getD 0)
  | [], _, _, _, h => .inl h
  | (m, k) :: r, acc, n, c, h => by
    unfold cloFrom at h
    split at h
    · rename_i hk
      have hk : k = .free := by simpa using hk
      rcases cloFrom_mem h with h | ⟨h1, h2⟩
      · rcases List.mem_cons.mp h with e | h
        · cases e; exact .inr ⟨hk ▸ List.mem_cons_self, rfl⟩
        · exact .inl h
      · exact .inr ⟨List.mem_cons_of_mem _ h1, h2⟩
    · rcases cloFrom_mem h with h | ⟨h1, h2⟩
      · exact .inl h
      · exact .inr ⟨List.mem_cons_of_mem _ h1, h2⟩
theorem cloFrom_acc {cells : List (Str × Addr)} : ∀ {names : List (Str × NameKind)} {acc : List (Str × Addr)} {p : Str × Addr}, p ∈ acc → p ∈ cloFrom cells names acc
  | [], _, _, h => h
  | (m, k) :: r, acc, p, h => by
    unfold cloFrom
    split
    · exact cloFrom_acc (List.mem_cons_of_mem _ h)
    · exact cloFrom_acc h
theorem cloFrom_has {cells : List (Str × Addr)} : ∀ {names : List (Str × NameKind)} {acc : List (Str × Addr)} {n : Str}, (n, .free) ∈ names → (n, (cells.lookup n).getD 0) ∈ cloFrom cells names acc
  | (m, k) :: r, acc, n, h => by
    unfold cloFrom
    rcases List.mem_cons.mp h with e | h
    · cases e
      exact cloFrom_acc List.mem_cons_self
    · split
      · exact cloFrom_has h
      · exact cloFrom_has h

theorem cells_mem : ∀ {names : List (Str × NameKind)} {h : Heap} {acc : List (Str × Addr)} {x : Str} {c : Addr}, (x, c) ∈ cellsFrom h.objs.size names acc →
    (x, c) ∈ acc ∨ ((x, .cell) ∈ names ∧ h.objs.size ≤ c ∧ CellAt (pushCells h names) c none)
  | [], _, _, _, _, h => .inl h
  | (n, k) :: r, h, acc, x, c, hm => by
    unfold cellsFrom at hm
    unfold pushCells
    split at hm
    · rename_i hk
      rw [if_pos hk]
      have hk : k = .cell := by simpa using hk
      rw [← Heap.size_push h { cls := .type "cell", data := .cell none }] at hm
      rcases cells_mem hm with hm | ⟨h1, h2, h3⟩
      · rcases List.mem_cons.mp hm with e | hm
        · cases e
          exact .inr ⟨hk ▸ List.mem_cons_self, Nat.le_refl _, _, pushCells_keeps r _ _ _ (Heap.get?_push_size _ rfl), rfl⟩
        · exact .inl hm
      · rw [Heap.size_push] at h2
        exact .inr ⟨List.mem_cons_of_mem _ h1, Nat.le_of_succ_le h2, h3⟩
    · rename_i hk
      rw [if_neg hk]
      rcases cells_mem hm with hm | ⟨h1, h2, h3⟩
      · exact .inl hm
      · exact .inr ⟨List.mem_cons_of_mem _ h1, h2, h3⟩
theorem cells_acc : ∀ {names : List (Str × NameKind)} {n : Nat} {acc : List (Str × Addr)} {p : Str × Addr}, p ∈ acc → p ∈ cellsFrom n names acc
  | [], _, _, _, h => h
  | (m, k) :: r, n, acc, p, h => by
    unfold cellsFrom
    split
    · exact cells_acc (List.mem_cons_of_mem _ h)
    · exact cells_acc h
theorem cells_has : ∀ {names : List (Str × NameKind)} {n : Nat} {acc : List (Str × Addr)} {x : Str}, (x, .cell) ∈ names → ∃ c, (x, c) ∈ cellsFrom n names acc
  | (m, k) :: r, n, acc, x, h => by
    unfold cellsFrom
    rcases List.mem_cons.mp h with e | h
    · cases e
      exact ⟨n, cells_acc List.mem_cons_self⟩
    · split
      · exact cells_has h
      · exact cells_has h
theorem cells_inj : ∀ {names : List (Str × NameKind)} {h : Heap} {acc : List (Str × Addr)} {x y : Str} {c : Addr}, (∀ p ∈ acc, p.2 < h.objs.size) → (∀ x y c, (x, c) ∈ acc → (y, c) ∈ acc → x = y) →
    (x, c) ∈ cellsFrom h.objs.size names acc → (y, c) ∈ cellsFrom h.objs.size names acc → x = y
  | [], _, _, _, _, _, _, hi, h1, h2 => hi _ _ _ h1 h2
  | (n, k) :: r, h, acc, x, y, c, hl, hi, h1, h2 => by
    unfold cellsFrom at h1 h2
    split at h1
    · rename_i hk
      rw [if_pos hk] at h2
      rw [← Heap.size_push h { cls := .type "cell", data := .cell none }] at h1 h2
      refine cells_inj (h := h.push _) (fun p hp => ?_) (fun x y c a b => ?_) h1 h2
      · rw [Heap.size_push]
        rcases List.mem_cons.mp hp with rfl | hp
        · exact Nat.lt_succ_self _
        · exact Nat.lt_succ_of_lt (hl p hp)
      · rcases List.mem_cons.mp a with e | a <;> rcases List.mem_cons.mp b with e' | b
        · cases e; cases e'; rfl
        · cases e; exact absurd (hl _ b) (Nat.lt_irrefl _)
        · cases e'; exact absurd (hl _ a) (Nat.lt_irrefl _)
        · exact hi _ _ _ a b
    · rename_i hk
      rw [if_neg hk] at h2
      exact cells_inj hl hi h1 h2

theorem newEnv_comp {M : Model} {A : Around} {E : Value → Shared → Prop} {s : Shared} {scope : Scope} {globals : Addr} {closure : List (Str × Addr)} {qual : Str} {func : Option Addr} {code : Value} {around : Env} {builtins : Addr} {Q : Env → Shared → Prop}
    (h : Q (newEnv scope s.heap.objs.size globals (cellsFrom (s.heap.objs.size + 1) scope.names closure) qual func code (some around) builtins)
      { s with heap := pushCells (s.heap.push { cls := .type "dict", data := .dict #[] }) scope.names }) :
    wpAny M A (newFunctionEnv scope globals closure [] qual func code (some around) builtins) Q E s := by
  simp only [newFunctionEnv, Option.isSome_some, if_true]
  refine wpAny_bind (wpAny_alloc ?_)
  refine wpAny_bind (wpAny_layCells _ (fun n k c => rfl) scope.names closure _ _ ?_)
  rw [show ({ s with heap := s.heap.push { cls := .type "dict", data := .dict #[] } } : Shared).heap.objs.size = s.heap.objs.size + 1 from Heap.size_push ..]
  rw [List.forIn_nil]
  exact wpAny_bind (wpAny_pure (wpAny_pure h))

/-- every name of the written scope, in the scope that runs -/
theorem lookup_relS {sc : Scope} : ∀ {names : List (Str × NameKind)} {x : Str} {k : NameKind},
    (names.map fun (n, k) => if (k == NameKind.free && sc.kind == .function && sc.names.lookup n == some .cell) then (n, NameKind.cell) else (n, k)).lookup x = some k →
    ∃ k', names.lookup x = some k' ∧ (k = k' ∨ (k' = .free ∧ k = .cell))
  | [], _, _, h => by simp at h
  | (n, k₀) :: r, x, k, h => by
    have ih := @lookup_relS sc r x k
    have h' : List.lookup x ((if (k₀ == NameKind.free && sc.kind == .function && sc.names.lookup n == some .cell) = true then (n, NameKind.cell) else (n, k₀)) :: (r.map _)) = some k := h
    cases hx : x == n with
    | true =>
      simp only [List.lookup_cons, hx]
      by_cases hc : (k₀ == NameKind.free && sc.kind == .function && sc.names.lookup n == some .cell) = true
      · rw [if_pos hc] at h'
        simp only [List.lookup_cons, hx] at h'
        cases h'
        simp only [Bool.and_eq_true, beq_iff_eq] at hc
        exact ⟨k₀, rfl, .inr ⟨hc.1.1, rfl⟩⟩
      · rw [if_neg hc] at h'
        simp only [List.lookup_cons, hx] at h'
        cases h'
        exact ⟨_, rfl, .inl rfl⟩
    | false =>
      simp only [List.lookup_cons, hx]
      by_cases hc : (k₀ == NameKind.free && sc.kind == .function && sc.names.lookup n == some .cell) = true
      · rw [if_pos hc] at h'
        simp only [List.lookup_cons, hx] at h'
        exact ih h'
      · rw [if_neg hc] at h'
        simp only [List.lookup_cons, hx] at h'
        exact ih h'
/-- the names of a comprehension's block: its own (with their places in N), or captured -/
structure BlkOk (N : List Str) (sc scope : Scope) (own : List (Str × Nat)) : Prop where
  kind : scope.kind = .function
  uniq : ∀ y ∈ scope.names, scope.names.lookup y.1 = some y.2
  ix : ∀ p ∈ own, N[p.2]? = some p.1
  free : ∀ y ∈ scope.names, y.2 = .free → sc.names.lookup y.1 = some .cell ∨ sc.names.lookup y.1 = some .free
  own : ∀ y ∈ scope.names, y.2 = .local ∨ y.2 = .cell → y.1 ∈ own.map (·.1) ∨ y.1 ∉ N
/-- the slots of the block's own names forgotten -/
def wipe (σ : St) : List Nat → St
  | [] => σ
  | v :: vs => (wipe σ vs).set v none
theorem wipe_length (σ : St) : ∀ vs : List Nat, (wipe σ vs).length = σ.length
  | [] => rfl
  | v :: vs => by unfold wipe; rw [List.length_set, wipe_length σ vs]
theorem wipe_some {σ : St} {i : Nat} {x : V} : ∀ {vs : List Nat}, (wipe σ vs)[i]? = some (some x) → σ[i]? = some (some x) ∧ i ∉ vs
  | [], h => ⟨h, by simp⟩
  | v :: vs, h => by
    unfold wipe at h
    by_cases hi : v = i
    · subst hi
      by_cases hv : v < (wipe σ vs).length
      · rw [List.getElem?_set_self hv] at h; cases h
      · rw [List.getElem?_eq_none (by simpa using hv)] at h; cases h
    · rw [List.getElem?_set_ne hi] at h
      obtain ⟨h1, h2⟩ := wipe_some h
      exact ⟨h1, by simp only [List.mem_cons, not_or]; exact ⟨fun e => hi e.symm, h2⟩⟩

/-- the context of a block that starts at s, its iterator's objects at fp -/
abbrev Cx.blk (X : Cx) (s : Shared) (H : Hp) (scope : Scope) (cenv : Env) (fp : List Addr) : Cx := { X with s_0 := s, H_0 := H, env := cenv, outer := X.stack, ex := fp, fn := fun x => scope.names.lookup x == some .cell, pn := [], xe := fun _ _ => False }
section
variable {X : Cx} {pins : List (Addr × Obj)} {σ : St} {H : Hp} {s : Shared}
theorem block_start {scope : Scope} {own : List (Str × Nat)} {fp : List Addr} (I : Inv X pins σ H s) (ok : BlkOk X.N X.env.scope scope own) (hN : X.N.Nodup) (hfp : ∀ b ∈ fp, FpOk X pins H b ∧ b < s.heap.objs.size) :
    Inv (X.blk s H scope (compEnvC scope (cellsFrom (s.heap.objs.size + 1) scope.names (cloFrom X.env.cells scope.names [])) s.heap.objs.size X.env) fp) [] (wipe σ (own.map (·.2))) H { s with heap := pushCells (s.heap.push { cls := .type "dict", data := .dict #[] }) scope.names } := by
  have hfree : ∀ y ∈ scope.names, y.2 = .free → ∃ c, X.env.cells.lookup y.1 = some c := fun y hy e => by
    rcases ok.free y hy e with k | k
    · exact I.ok.has _ (.inl k)
    · exact I.ok.has _ (.inr k)
  generalize hcenv : compEnvC scope (cellsFrom (s.heap.objs.size + 1) scope.names (cloFrom X.env.cells scope.names [])) s.heap.objs.size X.env = cenv
  have kp : ∀ b o, s.heap.get? b = some o → (pushCells (s.heap.push { cls := .type "dict", data := .dict #[] }) scope.names).get? b = some o := fun b o e => pushCells_keeps _ _ _ _ (Heap.get?_push_of_some _ e)
  have hL : cenv.locals = s.heap.objs.size := by rw [← hcenv]; rfl
  have hcl : cenv.cells = cellsFrom (s.heap.objs.size + 1) scope.names (cloFrom X.env.cells scope.names []) := by rw [← hcenv]; rfl
  have hsc : cenv.scope = relS scope X.env.scope := by rw [← hcenv]; rfl
  rw [← Heap.size_push s.heap { cls := .type "dict", data := .dict #[] }] at hcl
  have cm : ∀ {y c}, (y, c) ∈ cloFrom X.env.cells scope.names [] → X.env.cells.lookup y = some c ∧ c < s.heap.objs.size := fun {y c} hm => by
    rcases cloFrom_mem hm with hm | ⟨h1, rfl⟩
    · cases hm
    · obtain ⟨c, hc⟩ := hfree _ h1 rfl
      rw [hc]
      obtain ⟨w, z⟩ := I.cell _ _ hc
      exact ⟨rfl, z.lt⟩
  have mem : ∀ {y c}, cenv.cells.lookup y = some c → (X.env.cells.lookup y = some c ∧ c < s.heap.objs.size) ∨ (s.heap.objs.size + 1 ≤ c ∧ CellAt (pushCells (s.heap.push { cls := .type "dict", data := .dict #[] }) scope.names) c none) := fun {y c} e => by
    rw [hcl] at e
    rcases cells_mem (PySem.mem_of_lookup e) with hm | ⟨_, h2, h3⟩
    · exact .inl (cm hm)
    · rw [Heap.size_push] at h2; exact .inr ⟨h2, h3⟩
  have look : ∀ {y}, scope.names.lookup y = some .free → ∃ c, cenv.cells.lookup y = some c ∧ X.env.cells.lookup y = some c := fun {y} hl => by
    have hy : (y, NameKind.free) ∈ scope.names := PySem.mem_of_lookup hl
    obtain ⟨c', e'⟩ := mem_lookup (cells_acc (names := scope.names) (n := (s.heap.push { cls := .type "dict", data := .dict #[] }).objs.size) (cloFrom_has (cells := X.env.cells) (acc := []) hy))
    rw [← hcl] at e'
    refine ⟨c', e', ?_⟩
    rw [hcl] at e'
    rcases cells_mem (PySem.mem_of_lookup e') with hm | ⟨h1, _, _⟩
    · exact (cm hm).1
    · have := ok.uniq _ h1
      rw [hl] at this; cases this
  have okB : (X.blk s H scope cenv fp).Ok := by
    refine ⟨I.ok.mod, by show cenv.scope.kind = _; rw [hsc]; exact ok.kind, by show cenv.globals = _; rw [← hcenv]; exact I.ok.glob, by show cenv.builtins = _; rw [← hcenv]; exact I.ok.blt, by show s.heap.objs.size ≤ cenv.locals; rw [hL]; exact Nat.le_refl _,
      fun y z c e1 e2 => ?_, fun y hy => ?_, fun y c z e => ?_, I.ok.hd, I.ok.frames, .inl rfl, fun b hb => ⟨?_, fun y c e z => ?_⟩, I.bs, Nat.le_trans I.ok.bsz I.sz, fun b o e hb => ?_, fun b hb z => ?_, I.stack, I.stkFree⟩
    · have e1 : cenv.cells.lookup y = some c := e1
      have e2 : cenv.cells.lookup z = some c := e2
      rw [hcl] at e1 e2
      refine cells_inj (fun p hp => ?_) (fun y z c a b => I.ok.inj y z c (cm a).1 (cm b).1) (PySem.mem_of_lookup e1) (PySem.mem_of_lookup e2)
      rw [Heap.size_push]
      exact Nat.lt_succ_of_lt (cm (y := p.1) (c := p.2) hp).2
    · show ∃ c, cenv.cells.lookup y = some c
      have key : ∀ k, cenv.kindOf y = some k → (k = .cell ∨ k = .free) → ∃ c, cenv.cells.lookup y = some c := fun k hk hk' => by
        unfold Env.kindOf at hk
        rw [hsc] at hk
        obtain ⟨k', e, r⟩ := lookup_relS hk
        have : k' = .cell ∨ k' = .free := by
          rcases r with rfl | ⟨rfl, _⟩
          · exact hk'
          · exact .inr rfl
        rcases this with rfl | rfl
        · obtain ⟨c, hm⟩ := cells_has (n := (s.heap.push { cls := .type "dict", data := .dict #[] }).objs.size) (acc := cloFrom X.env.cells scope.names []) (PySem.mem_of_lookup e)
          obtain ⟨c', e'⟩ := mem_lookup hm
          exact ⟨c', by rw [hcl]; exact e'⟩
        · obtain ⟨c, h1, _⟩ := look e
          exact ⟨c, h1⟩
      rcases hy with hy | hy
      · exact key _ hy (.inl rfl)
      · exact key _ hy (.inr rfl)
    · have z : (scope.names.lookup y == some NameKind.cell) = true := z
      have z : scope.names.lookup y = some .cell := by simpa using z
      have e : cenv.cells.lookup y = some c := e
      rw [hcl] at e
      rcases cells_mem (PySem.mem_of_lookup e) with hm | ⟨_, h2, _⟩
      · rcases cloFrom_mem hm with hm | ⟨h1, _⟩
        · cases hm
        · have q := ok.uniq _ h1
          rw [z] at q; cases q
      · rw [Heap.size_push] at h2
        exact Nat.le_of_succ_le h2
    · show b ≠ cenv.locals
      rw [hL]; exact Nat.ne_of_lt (hfp b hb).2
    · have e : cenv.cells.lookup y = some c := e
      rcases mem e with ⟨h1, _⟩ | ⟨h1, _⟩
      · exact (hfp b hb).1.2.2.2.2.1 y c h1 z
      · have h2 : s.heap.objs.size + 1 ≤ b := by rw [← z]; exact h1
        exact absurd (Nat.lt_of_lt_of_le (hfp b hb).2 (Nat.le_of_succ_le h2)) (Nat.lt_irrefl _)
    · rcases (hfp b hb).1.2.2.2.1 with z | z
      · exact I.ok.noex b o e z
      · exact absurd (Nat.lt_of_lt_of_le (Heap.lt_size e) (Nat.le_trans I.ok.bsz z)) (Nat.lt_irrefl _)
    · rcases List.mem_cons.mp (I.stkSub b z) with z | z
      · exact (hfp b hb).1.2.1 z
      · exact (hfp b hb).1.2.2.1 z
  refine ⟨okB, rfl, GP.refl I.bare.bare, Un.kept kp, ⟨fun _ => none, ?_, fun i y av e1 e2 e3 => ?_⟩, fun y c e => ?_, ?_, fun y c e => ?_, fun p hp => ?_, I.hok.kept kp, by rw [wipe_length]; exact I.len⟩
  · show Heap.Ns _ cenv.locals _
    rw [hL]
    exact Heap.Ns.keeps (Heap.Ns.new ..) fun b o e => pushCells_keeps _ _ _ _ e
  · obtain ⟨e2, hne⟩ := wipe_some e2
    have hfr : scope.names.lookup y = some .free ∧ (cenv.kindOf y = some .cell ∨ cenv.kindOf y = some .free) := by
      have key : ∀ k, cenv.scope.names.lookup y = some k → k = .local ∨ k = .cell ∨ k = .free → scope.names.lookup y = some .free ∧ (cenv.kindOf y = some .cell ∨ cenv.kindOf y = some .free) := fun k hk hk' => by
        have hk0 := hk
        rw [hsc] at hk
        obtain ⟨k', e, r⟩ := lookup_relS hk
        have no : ¬ (k' = .local ∨ k' = .cell) := fun hh => by
          rcases ok.own _ (PySem.mem_of_lookup e) hh with e' | e'
          · obtain ⟨p, hp, hpy⟩ := List.mem_map.mp e'
            have e3 := ok.ix p hp
            have : p.1 = y := hpy
            rw [this] at e3
            exact hne (List.mem_map.mpr ⟨p, hp, nodup_ix hN e3 e1⟩)
          · exact e' (List.mem_of_getElem? e1)
        rcases r with rfl | ⟨rfl, rfl⟩
        · rcases hk' with rfl | rfl | rfl
          · exact absurd (.inl rfl) no
          · exact absurd (.inr rfl) no
          · exact ⟨e, .inr hk0⟩
        · exact ⟨e, .inl hk0⟩
      have e3 : Vis cenv.scope y := e3
      rcases e3 with e3 | e3 | e3
      · exact key _ e3 (.inl rfl)
      · exact key _ e3 (.inr (.inl rfl))
      · exact key _ e3 (.inr (.inr rfl))
    obtain ⟨m, hn, hl⟩ := I.loc
    have hvis : Vis X.env.scope y := (ok.free _ (PySem.mem_of_lookup hfr.1) rfl).elim (fun k => .inr (.inl k)) (fun k => .inr (.inr k))
    obtain ⟨w, r, q⟩ := hl i y av e1 e2 hvis
    refine ⟨w, r, .inr ⟨hfr.2, ?_⟩⟩
    obtain ⟨c, h1, h2⟩ := look hfr.1
    rcases q with ⟨k, _⟩ | ⟨_, c', e', z⟩
    · have k : X.env.scope.names.lookup y = some .local := k
      rcases ok.free _ (PySem.mem_of_lookup hfr.1) rfl with k' | k' <;> rw [show X.env.scope.names.lookup y = _ from k'] at k <;> cases k
    · rw [h2] at e'; cases e'
      exact ⟨c, h1, z.keeps kp⟩
  · have e : cenv.cells.lookup y = some c := e
    rcases mem e with ⟨h1, _⟩ | ⟨_, z⟩
    · obtain ⟨w, z⟩ := I.cell y c h1
      exact ⟨w, z.keeps kp⟩
    · exact ⟨_, z⟩
  · show H cenv.locals = none
    rw [hL]; exact I.hok.fresh (Nat.le_refl _)
  · have e : cenv.cells.lookup y = some c := e
    rcases mem e with ⟨h1, _⟩ | ⟨h1, _⟩
    · exact I.freeC y c h1
    · exact I.hok.fresh (Nat.le_of_succ_le h1)
  · exact absurd (show p ∈ ([] : List (Addr × Obj)) ++ [] from hp) (by simp)

/-- an item appended to a tracked list -/
theorem app_ok {E : Value → Shared → Prop} {D : Addr} {xs : List V} {y : V} {v : Value} {Q : Value → Shared → Prop} (I : Inv X pins σ H s) (hD : H D = some (.lst xs)) (hz : xs.length < sizeLine) (r : RelV y v)
    (h : ∀ s', Inv X pins σ (upd H D (.lst (xs ++ [y]))) s' → Q .none s') : wpAny (model X.prog X.w) X.A (call (.builtin "list.append") [.ref D, v]) Q E s := by
  obtain ⟨hz', its, n, ri, e⟩ := I.hok D _ hD
  have hl := ri.length
  refine append_at (hsz := by rw [List.size_toArray]; omega) e fun h' sb ho' => ?_
  refine h { s with heap := h' } (I.write (t' := s.toks) (by rw [hD]; trivial) (.inl rfl) (fun b u hb q => (sb.2 b hb).trans q) ⟨_, ho'⟩ ⟨by rw [List.length_append]; exact hz, its ++ [v], n + 1, ri.append (.cons r .nil), ?_⟩)
  rw [ho']
  simp

/-- a clause's tests -/
def PTs (X : Cx) (ifs : List Expr) (t : TT) : Prop :=
  ∀ (pins : List (Addr × Obj)) (s : Shared) (σ : St) (H : Hp) (Q : Bool → Hp → Prop), Inv X pins σ H s → t σ H Q →
    wpAny (model X.prog X.w) X.A (forIn ifs true fun c r => if r = true then do let ok ← isTrue c X.env (eval c X.env); pure (ForInStep.yield ok) else pure (ForInStep.yield r)) (TP X pins σ Q) X.xe s
def tYes : TT := fun _ H Q => Q true H
theorem pts_nil : PTs X [] tYes := fun _ _ _ H _ I h => wpAny_tests_nil ⟨H, I, h⟩
end

theorem thnF {α : Type} {t : Sem α} {Q Q' : α → Shared → Prop} {M : Model} {A : Around} {E : Value → Shared → Prop} {s : Shared} (h : wpAny M A t Q (fun _ _ => False) s) (hQ : ∀ a s, Q a s → Q' a s) : wpAny M A t Q' E s := wpAny_mono h hQ fun _ _ z => False.elim z

/-- the loop of a list comprehension's block, the target of any form (codeAny_compLoop_tests asks a target that no tuple goes to; statement and proof follow it, PyProof/CompMap.lean:41-61, with the step letOwnedTupleGo kept) -/
theorem compLoop_any {prog : Program} {w : World} {A : Around} {R : Result → Shared → Prop} {s : Shared} {elt target iter : Expr} {ifs : List Expr} {scope : Scope} {pos : Pos} {it acc : Value} {env : Env} (I : Nat → Shared → Prop)
    (turn : ∀ n s, I n s → wpAny (model prog w) A (pyNext it) (fun r s₁ => match r with
      | none => R (.ok .next) s₁
      | some v => wpAny (model prog w) A (letOwnedTupleGo target it v) (fun _ s₁' => wpAny (model prog w) A (assign target env v) (fun _ s₂ =>
          wpAny (model prog w) A (forIn ifs true fun c r => if r = true then do let ok ← isTrue c env (eval c env); pure (ForInStep.yield ok) else pure (ForInStep.yield r)) (fun ok s₃ =>
            if ok = true then wpAny (model prog w) A (eval elt env) (fun x s₄ =>
              wpAny (model prog w) A (call (.builtin "list.append") [acc, x]) (fun _ s₅ => ∃ m, m < n ∧ I m s₅) (notedBy (model prog w) A env fun e s' => R (.error e) s') s₄) (notedBy (model prog w) A env fun e s' => R (.error e) s') s₃
            else ∃ m, m < n ∧ I m s₃) (notedBy (model prog w) A env fun e s' => R (.error e) s') s₂) (notedBy (model prog w) A env fun e s' => R (.error e) s') s₁') (notedBy (model prog w) A env fun e s' => R (.error e) s') s₁) (notedBy (model prog w) A env fun e s' => R (.error e) s') s)
    (n : Nat) (h : I n s) :
    codeAny (model prog w) A (.compLoop (.ListComp elt [⟨target, iter, ifs, 0⟩] scope pos) 0 it acc env) R s := by
  refine codeAny_loop rfl I (fun n s hI => ?_) n h
  show wpAny _ A ((compTurn (.ListComp elt [⟨target, iter, ifs, 0⟩] scope pos) 0 it acc env).onRaise (fun x => do noteFrame x env; theTreesLotGoes x)) _ _ s
  refine wpAny_noted ?_
  rw [compTurn_list]
  refine wpAny_bind (wpAny_standAt (wpAny_bind (wpAny_mono (turn n s hI) (fun r s₁ h₁ => ?_) fun _ _ h' => h')))
  cases r with
  | none => exact wpAny_pure h₁
  | some v =>
    refine wpAny_bind (wpAny_mono h₁ (fun _ s₁' h₁' => ?_) fun _ _ h' => h')
    refine wpAny_bind (wpAny_mono h₁' (fun _ s₂ h₂ => wpAny_bind (wpAny_mono h₂ (fun ok s₃ h₃ => ?_) fun _ _ h' => h')) fun _ _ h' => h')
    cases ok with
    | false => exact wpAny_pure ⟨rfl, h₃⟩
    | true =>
      exact wpAny_bind (wpAny_bind (wpAny_mono h₃ (fun x s₄ h₄ => wpAny_bind (wpAny_mono h₄ (fun _ s₅ h₅ => wpAny_pure (wpAny_pure ⟨rfl, h₅⟩)) fun _ _ h' => h')) fun _ _ h' => h'))

section
variable {X : Cx}
/-- [elt for target in iter if ..]: D the new list; W by the turn and a measure, Nx what a turn is to reach -/
def tLc (wi : TI) (g : TG) (tt : TT) (te : TE) (vs : List Nat) : TE := fun σ H Q => wi σ H fun J H1 => ∀ D, H1 D = none → ∃ W : Nat → Nat → Hp → Prop, (∃ m, W 0 m (upd H1 D (.lst []))) ∧ ∀ i m H, W i m H →
  (J.stop i H ∧ Q (.ref D) H) ∨ (J.go i H ∧ ∃ Nx : Hp → Prop, (∀ H', Nx H' → ∃ m', m' < m ∧ W (i + 1) m' H') ∧ ∀ x H', J.yld i H x H' → g x (wipe σ vs) H' fun σ2 H2 => wipe σ2 vs = wipe σ vs ∧ tt σ2 H2 fun b H3 =>
    if b = true then te σ2 H3 fun y H4 => ∃ acc, H4 D = some (.lst acc) ∧ acc.length < sizeLine ∧ Nx (upd H4 D (.lst (acc ++ [y]))) else Nx H3)
theorem lc_core {pins : List (Addr × Obj)} {s : Shared} {σ : St} {H : Hp} {Q : VK} {elt tg iter : Expr} {ifs : List Expr} {scope : Scope} {own : List (Str × Nat)} {pos pos' : Pos} {wi : TI} {g : TG} {tt : TT} {te : TE} {use : Option (Value → Sem Unit)} {Qf : Value → Shared → Prop}
    (hc : X.calm = true) (hN : X.N.Nodup) (I : Inv X pins σ H s) (hi : PI X tg iter wi) (ok : BlkOk X.N X.env.scope scope own)
    (hg : ∀ (s : Shared) (H : Hp) (C : Addr) (cl : List (Str × Addr)) (fp : List Addr), PG (X.blk s H scope (compEnvC scope cl C X.env) fp) tg g) (ht : ∀ (s : Shared) (H : Hp) (C : Addr) (cl : List (Str × Addr)) (fp : List Addr), PTs (X.blk s H scope (compEnvC scope cl C X.env) fp) ifs tt)
    (he : ∀ (s : Shared) (H : Hp) (C : Addr) (cl : List (Str × Addr)) (fp : List Addr), PE (X.blk s H scope (compEnvC scope cl C X.env) fp) elt te) (hs : ∀ x, foldedSetIterable iter X.env x = pure x)
    (h : tLc wi g tt te (own.map (·.2)) σ H Q)
    (hRR : ∀ D C s' m H', Inv X pins σ H' s' → Q (.ref D) H' → s'.heap.Ns C m → FpOk X pins H' C → compPost (model X.prog X.w) X.A X.xe use Qf (.ref D) C (.ok .next) s') :
    wpAny (model X.prog X.w) X.A (comprehension (.ListComp elt [⟨tg, iter, ifs, 0⟩] scope pos) scope X.env pos' (newList []) false (eval iter X.env) use) Qf X.xe s := by
  have hfree : ∀ y ∈ scope.names, y.2 = .free → ∃ c, X.env.cells.lookup y.1 = some c := fun y hy e => by
    rcases ok.free y hy e with k | k
    · exact I.ok.has _ (.inl k)
    · exact I.ok.has _ (.inr k)
  refine wpAny_comprehension_free (use := use) rfl hs (closure_ok hfree) ok.kind (fun y hy e => by rw [ok.uniq y hy, e])
    (thn (hi pins s σ H _ I h) fun xv s1 hx => thn hx fun itv s2 h2 => ?_)
  obtain ⟨it, fp, tn, J, H2, e, I2, T, st2, f2, q⟩ := h2
  subst e
  refine wpAny_newObj_type (newEnv_comp ?_) (by show 0 ≤ sizeLine; decide)
  generalize hD : s2.heap.objs.size = D
  have hDn : H2 D = none := I2.hok.fresh (Nat.le_of_eq hD)
  obtain ⟨W, ⟨m0, w0⟩, turn⟩ := q D hDn
  -- the new list
  generalize hs3 : ({ s2 with heap := s2.heap.push { cls := .type "list", data := .seq ([] : List Value).toArray } } : Shared) = s3
  have I3 : Inv X pins σ (upd H2 D (.lst [])) s3 := by
    rw [← hs3]
    refine I2.laid (t' := s2.toks) (fun b o e => Heap.get?_push_of_some _ e) (Nat.le_of_eq hD) ⟨Nat.zero_le _, [], 0, .nil, ?_⟩
    rw [← hD]
    exact Heap.get?_push_size _ rfl
  have h3 : s3.heap = s2.heap.push { cls := .type "list", data := .seq ([] : List Value).toArray } := by rw [← hs3]
  have sz : ∀ b ∈ fp, b < s2.heap.objs.size := fun b hb => by
    obtain ⟨o, e, _⟩ := T.obj _ _ st2 b hb
    exact Heap.lt_size e
  have f3 : ∀ b ∈ fp, FpOk X pins (upd H2 D (.lst [])) b ∧ b < s3.heap.objs.size := fun b hb => by
    have hlt := sz b hb
    refine ⟨⟨?_, (f2 b hb).2⟩, by rw [h3, Heap.size_push]; exact Nat.lt_succ_of_lt hlt⟩
    rw [upd_ne (by rw [← hD]; exact Nat.ne_of_lt hlt)]
    exact (f2 b hb).1
  have st3 : tn 0 s3.heap := T.keep _ _ _ st2 fun b _ o e => by rw [h3]; exact Heap.get?_push_of_some _ e
  have I4 := block_start I3 ok hN f3
  have pg := hg s3 (upd H2 D (.lst [])) s3.heap.objs.size (cellsFrom (s3.heap.objs.size + 1) scope.names (cloFrom X.env.cells scope.names [])) fp
  have pt := ht s3 (upd H2 D (.lst [])) s3.heap.objs.size (cellsFrom (s3.heap.objs.size + 1) scope.names (cloFrom X.env.cells scope.names [])) fp
  have pe := he s3 (upd H2 D (.lst [])) s3.heap.objs.size (cellsFrom (s3.heap.objs.size + 1) scope.names (cloFrom X.env.cells scope.names [])) fp
  show codeAny _ _ (.compStart (.ListComp elt [⟨tg, iter, ifs, 0⟩] scope pos) 0 (.ref it) (.ref D) (compEnvC scope (cellsFrom (s3.heap.objs.size + 1) scope.names (cloFrom X.env.cells scope.names [])) s3.heap.objs.size X.env)) (compPost (model X.prog X.w) X.A X.xe use Qf (.ref D) s3.heap.objs.size) { s3 with heap := pushCells (s3.heap.push { cls := .type "dict", data := .dict #[] }) scope.names }
  have nfp : ∀ b ∈ fp, (upd H2 D (.lst [])) b = none := fun b hb => (f3 b hb).1.1
  generalize hce : compEnvC scope (cellsFrom (s3.heap.objs.size + 1) scope.names (cloFrom X.env.cells scope.names [])) s3.heap.objs.size X.env = ce at I4 pg pt pe ⊢
  have cL : ce.locals = s3.heap.objs.size := by subst hce; rfl
  generalize hH3 : upd H2 D (.lst []) = H3 at I3 I4 pg pt pe w0 nfp f3
  generalize hs4 : ({ s3 with heap := pushCells (s3.heap.push { cls := .type "dict", data := .dict #[] }) scope.names } : Shared) = s4 at I4 ⊢
  have st4 : tn 0 s4.heap := T.keep _ _ _ st3 fun b _ o e => by rw [← hs4]; exact pushCells_keeps _ _ _ _ (Heap.get?_push_of_some _ e)
  have stat : ∀ {σ' : St} {H' : Hp} {s' : Shared}, Inv (X.blk s3 H3 scope ce fp) [] σ' H' s' → (∀ b ∈ fp, H' b = none) → ∀ b ∈ fp, FpOk (X.blk s3 H3 scope ce fp) [] H' b := fun {σ' H' s'} I' hn b hb =>
    ⟨hn b hb, (I'.ok.exf b hb).1, I'.ok.exfs b hb, .inl hb, fun x c e => (I'.ok.exf b hb).2 x c e, fun p hp => absurd (show p ∈ ([] : List (Addr × Obj)) ++ [] from hp) (by simp)⟩
  have loop : codeAny (model X.prog X.w) X.A (.compLoop (.ListComp elt [⟨tg, iter, ifs, 0⟩] scope pos) 0 (.ref it) (.ref D) ce) (compPost (model X.prog X.w) X.A X.xe use Qf (.ref D) s3.heap.objs.size) s4 := by
    refine compLoop_any (fun n s' => ∃ i H', Inv (X.blk s3 H3 scope ce fp) [] (wipe σ (own.map (·.2))) H' s' ∧ tn i s'.heap ∧ (∀ b ∈ fp, H' b = none) ∧ W i n H') ?_ m0 ⟨0, H3, I4, st4, nfp, w0⟩
    rintro n s5 ⟨i, H5, I5, st5, n5, w5⟩
    rcases turn i n H5 w5 with ⟨stop, qq⟩ | ⟨go, Nx, hNx, step⟩
    · have td := T.done (X.blk s3 H3 scope ce fp) rfl rfl rfl hc i [] s5 _ H5 (fun _ _ => False) I5 (stat I5 n5) st5 stop
      refine thnF td fun r s6 ⟨hr, I6⟩ => ?_
      subst hr
      -- back in the def's context
      have I7 : Inv X pins σ H5 s6 := I3.call' (ch := fp) I6.os I6.base I6.hok I6.bare fun b hb => ⟨(f3 b hb).1.2.2.2.1, (f3 b hb).1.2.1, (f3 b hb).1.2.2.2.2.1, (f3 b hb).1.2.2.2.2.2⟩
      have nC : H5 s3.heap.objs.size = none := by
        have z : H5 ce.locals = none := I6.free
        rw [cL] at z
        exact z
      obtain ⟨m, hn, _⟩ := I6.loc
      have hn : s6.heap.Ns ce.locals m := hn
      rw [cL] at hn
      exact hRR D s3.heap.objs.size s6 m H5 I7 qq hn (I3.fpOk (Nat.le_refl _) nC)
    · have ti := T.item (X.blk s3 H3 scope ce fp) rfl rfl rfl hc i [] s5 _ H5 (fun _ _ => False) I5 (stat I5 n5) st5 go
      refine thnF ti fun r s6 ⟨u, hr, h6⟩ => ?_
      subst hr
      refine thnF h6 fun _ s7 ⟨x, H7, I7, r7, y7, st7, n7⟩ => ?_
      have I7' := I7.pinned (stat I7 n7) (T.obj _ _ st7)
      refine thnF (pg _ s7 _ H7 x u _ I7' r7 (step x H7 y7)) fun _ s8 ⟨σ8, H8, I8, hw8, q8⟩ => ?_
      refine thnF (pt _ s8 σ8 H8 _ I8 q8) fun b s9 ⟨H9, I9, q9⟩ => ?_
      -- the turn's end
      have fin : ∀ {s' : Shared} {H' : Hp}, Inv (X.blk s3 H3 scope ce fp) ([] ++ pinsAt fp s7.heap) σ8 H' s' → Nx H' → ∃ m, m < n ∧ ∃ i H', Inv (X.blk s3 H3 scope ce fp) [] (wipe σ (own.map (·.2))) H' s' ∧ tn i s'.heap ∧ (∀ b ∈ fp, H' b = none) ∧ W i m H' := fun {s' H'} I' nx => by
        obtain ⟨m', hm, w'⟩ := hNx H' nx
        have pin' : ∀ b ∈ fp, ∀ o, s7.heap.get? b = some o → s'.heap.get? b = some o ∧ H' b = none := fun b hb o e =>
          let z := I'.pin (b, o) (List.mem_append_right _ (List.mem_append_right _ (mem_pinsAt hb e)))
          ⟨z.1, z.2.1⟩
        have hl : (wipe σ (own.map (·.2))).length = σ8.length := by rw [← hw8, wipe_length]
        refine ⟨m', hm, i + 1, H', (I'.unpinned (pins := [])).weak hl (fun j v e => ?_), T.keep _ _ _ st7 fun b hb o e => (pin' b hb o e).1, fun b hb => ?_, w'⟩
        · rw [← hw8] at e
          exact (wipe_some e).1
        · obtain ⟨o, e, _⟩ := T.obj _ _ st7 b hb
          exact (pin' b hb o e).2
      cases b with
      | false =>
        simp only [Bool.false_eq_true, if_false] at q9 ⊢
        exact fin I9 q9
      | true =>
        simp only [if_true] at q9 ⊢
        refine thnF (pe _ s9 σ8 H9 _ I9 q9) fun z s10 ⟨yv, H10, I10, r10, acc, hD10, hz10, nx⟩ => ?_
        exact app_ok (X := X.blk s3 H3 scope ce fp) I10 hD10 hz10 r10 fun s11 I11 => fin I11 nx
  exact codeAny_compStart_list loop (T.self X.A 0 _ _ _ st4 loop)
/-- as a value -/
theorem pe_lc {elt tg iter : Expr} {ifs : List Expr} {scope : Scope} {own : List (Str × Nat)} {pos : Pos} {wi : TI} {g : TG} {tt : TT} {te : TE} (hc : X.calm = true) (hN : X.N.Nodup) (hi : PI X tg iter wi) (ok : BlkOk X.N X.env.scope scope own)
    (hg : ∀ (s : Shared) (H : Hp) (C : Addr) (cl : List (Str × Addr)) (fp : List Addr), PG (X.blk s H scope (compEnvC scope cl C X.env) fp) tg g) (ht : ∀ (s : Shared) (H : Hp) (C : Addr) (cl : List (Str × Addr)) (fp : List Addr), PTs (X.blk s H scope (compEnvC scope cl C X.env) fp) ifs tt)
    (he : ∀ (s : Shared) (H : Hp) (C : Addr) (cl : List (Str × Addr)) (fp : List Addr), PE (X.blk s H scope (compEnvC scope cl C X.env) fp) elt te) (hs : ∀ x, foldedSetIterable iter X.env x = pure x := by intro _; rfl) :
    PE X (.ListComp elt [⟨tg, iter, ifs, 0⟩] scope pos) (tLc wi g tt te (own.map (·.2))) := by
  intro pins s σ H Q I h
  rw [eval_ListComp]
  refine lc_core hc hN I hi ok hg ht he hs h fun D C s' m H' I' q hn f => ⟨m, hn, fun h'' sb => ?_⟩
  obtain ⟨f0, f1, f2, f3, f4, f5⟩ := f
  exact ⟨.ref D, H', I'.turned (t' := s'.toks) (fun b o hb e => (sb.2 b hb).trans e) f0 f1 f3 f4 f5, rfl, q⟩
/-- name = [..] on one line, the name a local -/
theorem ps_setLc {i : Nat} {y : Str} {py : Pos} {elt tg iter : Expr} {ifs : List Expr} {scope : Scope} {own : List (Str × Nat)} {pos spos : Pos} {wi : TI} {g : TG} {tt : TT} {te : TE} (hc : X.calm = true) (hN : X.N.Nodup) (hy : X.N[i]? = some y) (hyl : X.env.scope.names.lookup y = some .local)
    (hsw : swapsWith (.ListComp elt [⟨tg, iter, ifs, 0⟩] scope pos) (some (.Name y py)) spos.line X.env = pure true) (hi : PI X tg iter wi) (ok : BlkOk X.N X.env.scope scope own)
    (hg : ∀ (s : Shared) (H : Hp) (C : Addr) (cl : List (Str × Addr)) (fp : List Addr), PG (X.blk s H scope (compEnvC scope cl C X.env) fp) tg g) (ht : ∀ (s : Shared) (H : Hp) (C : Addr) (cl : List (Str × Addr)) (fp : List Addr), PTs (X.blk s H scope (compEnvC scope cl C X.env) fp) ifs tt)
    (he : ∀ (s : Shared) (H : Hp) (C : Addr) (cl : List (Str × Addr)) (fp : List Addr), PE (X.blk s H scope (compEnvC scope cl C X.env) fp) elt te) (hs : ∀ x, foldedSetIterable iter X.env x = pure x := by intro _; rfl) :
    PS X (.Assign [.Name y py] (.ListComp elt [⟨tg, iter, ifs, 0⟩] scope pos) spos) (tAsg (tLc wi g tt te (own.map (·.2))) (gName i)) := by
  intro pins s σ H D I h
  rw [exec_Assign_Name_used _ _ _ _ hsw]
  refine wpAny_bind (wpAny_standAt (wpAny_bind ?_))
  show wpAny _ X.A (do let _ ← comprehension (.ListComp elt [⟨tg, iter, ifs, 0⟩] scope pos) scope X.env (firstIterPos [⟨tg, iter, ifs, 0⟩] pos) (newList []) false (eval iter X.env) (some (assign (.Name y py) X.env))) _ _ s
  have h : tLc wi g tt te (own.map (·.2)) σ H (fun x H1 => gName i x σ H1 D.nx) := h
  refine wpAny_bind (thn (lc_core (Qf := fun _ s' => SP X pins D .next s') hc hN I hi ok hg ht he hs h fun L C s' m H' I' q hn f => ?_) fun _ s' hq => wpAny_pure (wpAny_pure hq))
  show wpAny _ _ (assign (.Name y py) X.env (.ref L)) _ _ _
  refine wpAny_assign_Name (store_ok2 (v := V.ref L) I' hN hy (.inl hyl) rfl (fun s2 I2 ⟨a, sb, ha⟩ => ?_) (.inr hyl))
  obtain ⟨f0, f1, f2, f3, f4, f5⟩ := f
  have haC : C ≠ a := by
    rcases ha with z | z
    · rw [z]; exact f1
    · exact fun e => f4 y a z e.symm
  refine ⟨m, hn.sameBut sb haC, fun h3 sb3 => ?_⟩
  exact ⟨_, H', I2.turned (t' := s2.toks) (fun b o hb e => (sb3.2 b hb).trans e) f0 f1 f3 f4 f5, q⟩
theorem sw_true {elt : Expr} {gs : List Comprehension} {scope : Scope} {pos py : Pos} {y : Str} {l : Nat} {env : Env} (hk : env.scope.kind = .function) (hy : env.scope.names.lookup y = some .local) (hl : (py.line == pos.line) = true)
    (ha : (scope.names.any fun (n, k) => n == y && (k == .local || k == .cell)) = false) : swapsWith (.ListComp elt gs scope pos) (some (.Name y py)) l env = pure true := by
  have ky : env.kindOf y = some .local := hy
  have hb : env.blockKind = .function := by unfold Env.blockKind; rw [hk]; rfl
  unfold swapsWith
  simp only [hb, ky, ha, Expr.pos, hl]
  rfl
end

/-! ### the forms one uses -/
def blkC (N : List Str) (sc scope : Scope) (own : List (Str × Nat)) : Bool :=
  (match scope.kind with | .function => true | _ => false) && (scope.names.all fun y => decide (scope.names.lookup y.1 = some y.2)) && (own.all fun p => decide (N[p.2]? = some p.1)) &&
    (scope.names.all fun y => match y.2 with
      | .free => (match sc.names.lookup y.1 with | some .cell => true | some .free => true | _ => false)
      | .local => decide (y.1 ∈ own.map (·.1)) || decide (y.1 ∉ N)
      | .cell => decide (y.1 ∈ own.map (·.1)) || decide (y.1 ∉ N)
      | _ => true)
theorem blkOk_by {N : List Str} {sc scope : Scope} {own : List (Str × Nat)} (h : blkC N sc scope own = true) : BlkOk N sc scope own := by
  unfold blkC at h
  simp only [Bool.and_eq_true, List.all_eq_true, decide_eq_true_eq] at h
  obtain ⟨⟨⟨h1, h2⟩, h3⟩, h4⟩ := h
  refine ⟨?_, h2, h3, fun y hy e => ?_, fun y hy e => ?_⟩
  · split at h1
    · assumption
    · cases h1
  · have q := h4 y hy
    simp only [e] at q
    split at q <;> first | exact .inl (by assumption) | exact .inr (by assumption) | cases q
  · have q := h4 y hy
    rcases e with e | e <;> (simp only [e, Bool.or_eq_true, decide_eq_true_eq] at q; exact q)
end L2

namespace L2
open PySem PySem.Spec PyProof.Rows

section
variable {prog : Program} {w : World} {A : Around} {R : Result → Shared → Prop} {s : Shared} {elt t0 i0 t1 i1 : Expr} {ifs0 ifs1 : List Expr} {scope : Scope} {pos : Pos} {it acc : Value} {env : Env}
end

theorem wipe_out {σ : St} {i : Nat} : ∀ {vs : List Nat}, i ∉ vs → (wipe σ vs)[i]? = σ[i]?
  | [], _ => rfl
  | v :: vs, h => by
    have h1 : v ≠ i := fun e => h (by rw [e]; exact List.mem_cons_self)
    have h2 : i ∉ vs := fun m => h (List.mem_cons_of_mem _ m)
    unfold wipe
    rw [List.getElem?_set_ne h1]
    exact wipe_out h2
section
variable {X : Cx}
end
end L2

namespace L2
open PySem PySem.Spec PyProof.Rows

/-! ### lists of pairs as tables -/
section
variable {κ : Type} [DecidableEq κ]
def dropK (kvs : List (κ × V)) (k : κ) : List (κ × V) := kvs.filter fun kv => decide (kv.1 ≠ k)

theorem RelO.getD {o : Option V} {u : Option Value} {d : V} {d' : Value} (r : RelO o u) (rd : RelV d d') : RelV (o.getD d) (u.getD d') := by
  cases o with
  | none => cases u with
    | none => exact rd
    | some _ => exact (show False from r).elim
  | some _ => cases u with
    | none => exact (show False from r).elim
    | some _ => exact r

theorem KV.any {kvs : List (κ × V)} {vs : List (κ × Value)} (r : KV kvs vs) (k : κ) : (kvs.any fun kv => decide (kv.1 = k)) = vs.any fun kv => decide (kv.1 = k) := by
  unfold KV at r
  induction r with
  | nil => rfl
  | cons h t ih => rw [List.any_cons, List.any_cons, ih, h.1]
theorem KV.drop {kvs : List (κ × V)} {vs : List (κ × Value)} (r : KV kvs vs) (k : κ) : KV (dropK kvs k) (without vs k) := by
  unfold KV at r ⊢
  unfold dropK without
  induction r with
  | nil => exact .nil
  | @cons p q ps qs h t ih =>
    obtain ⟨h1, h2⟩ := h
    rw [List.filter_cons, List.filter_cons]
    by_cases e : p.1 = k
    · have a : ¬ decide (p.1 ≠ k) = true := by simp [e]
      have b : ¬ decide (q.1 ≠ k) = true := by simp [h1.symm.trans e]
      rw [if_neg a, if_neg b]; exact ih
    · have e' : ¬ q.1 = k := fun z => e (h1.trans z)
      have a : decide (p.1 ≠ k) = true := by simp [e]
      have b : decide (q.1 ≠ k) = true := by simp [e']
      rw [if_pos a, if_pos b]; exact .cons ⟨h1, h2⟩ ih
theorem KV.keys {kvs : List (κ × V)} {vs : List (κ × Value)} (r : KV kvs vs) : kvs.map (·.1) = vs.map (·.1) := by
  unfold KV at r
  induction r with
  | nil => rfl
  | cons h t ih => rw [List.map_cons, List.map_cons, ih, h.1]
theorem KV.length {kvs : List (κ × V)} {vs : List (κ × Value)} (r : KV kvs vs) : kvs.length = vs.length := Paired.length r
end


/-! ### a tracked dict, its keys ints and texts or tuples of these -/
/-- raw entries of a dict with tuple keys -/
abbrev KT (H : Hp) : List (List Key × V) → List (List Key × Addr × Value) → Prop := Paired fun p q => p.1 = q.1 ∧ H q.2.1 = some (.tup (p.1.map kV)) ∧ RelV p.2 q.2.2
theorem KT.keeps {H H' : Hp} {kvs : List (List Key × V)} {xs : List (List Key × Addr × Value)} (r : KT H kvs xs) (ht : ∀ b ys, H b = some (.tup ys) → H' b = some (.tup ys)) : KT H' kvs xs :=
  Paired.mapP r fun _ _ z => ⟨z.1, ht _ _ z.2.1, z.2.2⟩

section
variable {P : Program} {w : World} {H : Hp} {h : Heap} {a : Addr}
end

section
variable {X : Cx} {pins : List (Addr × Obj)} {σ : St} {H : Hp} {s : Shared} {a : Addr} {y v : V} {u r : Value} {o : Option V} {A : Around} {E : Value → Shared → Prop}

theorem Inv.big (I : Inv X pins σ H s) : sysModules < s.heap.objs.size := by
  have h : mainGlobals < s.heap.objs.size := (I.mod.glob.keeps I.bk).lt
  exact Nat.lt_trans (by decide) h

end

section
variable {X : Cx} {pins : List (Addr × Obj)} {σ : St} {H : Hp} {s : Shared} {a : Addr} {kvs : List (Key × V)} {k : Key} {u : Value} {A : Around} {E : Value → Shared → Prop}
end


/-! ### readings and rules -/
section
variable {X : Cx} {o i e value : Expr} {pos pos' tpos : Pos} {td ty tv : TE}
end


/-! ### displays -/
section
variable {X : Cx} {pos : Pos}
end

/-! ### methods -/
/-- a method call o.m(e) of a built-in, with one argument: what must be seen of the text -/
structure M1 (X : Cx) (o : Expr) (m : Str) (apos : Pos) (e : Expr) (cpos : Pos) : Prop where
  base : attributeBase o m X.env (eval o X.env) = eval o X.env
  few : ((backTo cpos (starEach [e] X.env)).all (fun x => !x.1) && (backToKw cpos (keywordEach [] X.env)).all (fun x => x.1.isSome)
    && decide (([e] : List Expr).length + ([] : List Keyword).length + (if ([] : List Keyword).isEmpty then 0 else 1) < 30)) = true
  line : (apos.endLine == cpos.line) = true
  trees : backTo cpos (starEach [e] X.env) = [(false, eval e X.env)]
structure M2 (X : Cx) (o : Expr) (m : Str) (apos : Pos) (e f : Expr) (cpos : Pos) : Prop where
  base : attributeBase o m X.env (eval o X.env) = eval o X.env
  few : ((backTo cpos (starEach [e, f] X.env)).all (fun x => !x.1) && (backToKw cpos (keywordEach [] X.env)).all (fun x => x.1.isSome)
    && decide (([e, f] : List Expr).length + ([] : List Keyword).length + (if ([] : List Keyword).isEmpty then 0 else 1) < 30)) = true
  line : (apos.endLine == cpos.line) = true
  trees : backTo cpos (starEach [e, f] X.env) = [(false, eval e X.env), (false, eval f X.env)]

section
variable {X : Cx} {pins : List (Addr × Obj)} {σ : St} {H : Hp} {s : Shared} {a : Addr} {y d : V} {u r : Value} {o : Option V} {A : Around} {E : Value → Shared → Prop}
end

section
variable {X : Cx} {o e f : Expr} {apos cpos : Pos} {td ty tx : TE}
end

/-! ### dict(d): a copy -/
section
variable {X : Cx} {pins : List (Addr × Obj)} {σ : St} {H : Hp} {s : Shared} {a : Addr} {kvs : List (Key × V)} {A : Around} {E : Value → Shared → Prop}
end


section
variable {X : Cx} {pins : List (Addr × Obj)} {σ : St} {H : Hp} {s : Shared} {a : Addr} {y : V} {u : Value} {A : Around} {E : Value → Shared → Prop}
end
end L2

namespace L2
open PySem PySem.Spec PyProof.Rows

section
variable {prog : Program} {w : World} {A : Around} {E : Value → Shared → Prop}
end

section
variable {X : Cx}
end
end L2

namespace L2
open PySem PySem.Spec PyProof.Rows

section
variable {X : Cx} {pins : List (Addr × Obj)} {σ : St} {H : Hp} {s : Shared} {h' : Heap}
/-- several records of ours have turned -/
theorem Inv.turnedL {t' : Nat} {ch : List Addr} (I : Inv X pins σ H s) (k : ∀ b o, b ∉ ch → s.heap.get? b = some o → h'.get? b = some o) (hf : ∀ b ∈ ch, FpOk X pins H b) : Inv X pins σ H { s with heap := h', toks := t' } := by
  have nit : ∀ b u, H b = some u → b ∉ ch := fun b u e z => by
    have q := (hf b z).1
    rw [q] at e; cases e
  refine I.step (g' := s.gens) (d' := s.drawn) (ch := ch) (fun b hb => ⟨(hf b hb).2.2.2.1, (hf b hb).2.1, (hf b hb).2.2.2.2.1, (hf b hb).2.2.2.2.2⟩) (fun b o _ _ hc e _ => k b o hc e) (fun b o _ _ hc e _ => ⟨o.slots, k b o hc e⟩)
    (fun _ _ _ _ n => n) (fun b o hc e => ⟨o, k b o hc e⟩) (fun _ _ e => e) (fun _ _ _ e => e) (fun b ps e => ⟨#[], by rw [e]; simp⟩) (fun m hm => ?_) (fun b u e => ?_) I.bare
  · obtain ⟨o, es, ep, ho, r⟩ := hm
    exact ⟨o, es, ep, k _ o (fun z => (hf _ z).2.1 rfl) ho, r⟩
  · refine (I.hok b u e).stay (fun c v hc q => k c v ?_ q) (fun _ q => q) fun _ _ q => q
    rcases hc with z | z
    · rw [z]; exact nit b u e
    · exact nit c _ z
/-! ### locking a thing while a statement runs -/
end
section
variable {X : Cx}
/-! ### one iterator just laid -/
theorem pi_one {tg : Expr} {pins : List (Addr × Obj)} {σ : St} {H : Hp} {s : Shared} {R : It → Hp → Prop} {J : It} {tn : Nat → Heap → Prop} {tk : Nat} (I : Inv X pins σ H s) (o : Obj)
    (T : Turn X.prog X.w X.K tg J [s.heap.objs.size] s.heap.objs.size tn) (st : tn 0 (s.heap.push o)) (q : R J H) : PIE X pins σ tg R (.ref s.heap.objs.size) { s with heap := s.heap.push o, toks := tk } := by
  refine ⟨s.heap.objs.size, [s.heap.objs.size], tn, J, H, rfl, I.kept fun b ob e => Heap.get?_push_of_some _ e, T, st, fun b hb => ?_, q⟩
  have e : b = s.heap.objs.size := by simpa using hb
  subst e
  exact I.fpOk (Nat.le_refl _) (I.hok.fresh (Nat.le_refl _))
end

/-! ### range with a step -/
section
variable {X : Cx} {tg : Expr}
end
/-! ### reversed(list) -/
section
variable {X : Cx} {tg : Expr}
end

/-! ### a str -/
def Its (x : Str) : It := ⟨fun i _ => i < x.cps.size, fun i H v H' => H' = H ∧ ∃ c, x.cps[i]? = some c ∧ v = .str ⟨#[c]⟩, fun i _ => x.cps.size ≤ i⟩
theorem turn_str {P : Program} {w : World} {K : PySem.W.Frag} {tg : Expr} (it : Addr) (x : Str) (t : Tok) (ty : String) (hty : ty = "str_ascii_iterator" ∨ ty = "str_iterator") :
    Turn P w K tg (Its x) [it] it (fun i h => h.IsStrIter it ty x t i) where
  mem := by simp
  obj := fun i h st b hb => by
    have e : b = it := by simpa using hb
    subst e
    obtain ⟨o, e, c, d⟩ := st
    exact ⟨o, e, fun v z => by rw [d] at z; cases z⟩
  keep := fun i h h' st k => let ⟨o, ho, r⟩ := st; ⟨o, k it (by simp) o ho, r⟩
  item := by
    intro X hP hw hK hc i pins s σ H E I hf st hg
    subst hP hw hK
    obtain ⟨f0, f1, f2, f3, f4, f5⟩ := hf it (by simp)
    have W : Walks X.prog X.w X.A it [it] [it] x.cps.size (SignAt x) (fun i h => h.IsStrIter it ty x t i) := by
      rcases hty with e | e
      · rw [e]; exact Walks.strAscii (I.ok.hd hc) it x t
      · rw [e]; exact Walks.strWide (I.ok.hd hc) it x t
    have hno : ["enumerate", "zip", "dict_itemiterator", "dict_reverseitemiterator", "odict_iterator", "itertools.zip_longest", "itertools.pairwise"].contains ty = false := by
      rcases hty with e | e
      · rw [e]; decide
      · rw [e]; decide
    refine W.item i s _ _ hg st fun v h' tk hv st' kk => ?_
    obtain ⟨c, u, hcx, rfl⟩ := hv
    have I1 : Inv X pins σ H { s with heap := h', toks := tk } := I.turned (fun b o hb e => kk b o (by simpa using hb) e) f0 f1 f3 f4 f5
    obtain ⟨oi, e, cc, dd⟩ := id st'
    exact ⟨_, rfl, go_of (s := { s with heap := h', toks := tk }) e cc dd hno ⟨.str ⟨#[c]⟩, H, I1, ⟨u, rfl⟩, ⟨rfl, c, hcx, rfl⟩, st', fun b hb => (hf b hb).1⟩⟩
  done := by
    intro X hP hw hK hc i pins s σ H E I hf st hg
    subst hP hw hK
    obtain ⟨f0, f1, f2, f3, f4, f5⟩ := hf it (by simp)
    have hx : x.cps[i]? = none := Array.getElem?_eq_none hg
    rcases hty with e | e
    · rw [e] at st
      exact wpAny_pyNext_ascii_end (I.ok.hd hc) st hx fun h' eb => ⟨rfl, I.turned (t' := s.toks) (fun b o hb e => eb b o hb e) f0 f1 f3 f4 f5⟩
    · rw [e] at st
      exact wpAny_pyNext_wide_end (I.ok.hd hc) st hx fun h' eb => ⟨rfl, I.turned (t' := s.toks) (fun b o hb e => eb b o hb e) f0 f1 f3 f4 f5⟩
  self := fun A i s Q E st h => by
    rcases hty with e | e
    · rw [e] at st; exact wpAny_pyIter_striter_ascii st h
    · rw [e] at st; exact wpAny_pyIter_striter_wide st h
def iStr (te : TE) : TI := fun σ H R => te σ H fun v H1 => ∃ x, v = .str x ∧ R (Its x) H1
theorem pi_str {X : Cx} {tg e : Expr} {te : TE} (he : PE X e te) : PI X tg e (iStr te) := by
  intro pins s σ H R I h
  refine thn (he pins s σ H _ I h) fun v s1 ⟨y, H1, I1, r1, x, ex, q⟩ => ?_
  subst ex
  obtain ⟨t, rfl⟩ := r1
  cases ha : x.cps.all (· < 128)
  · exact wpAny_pyIter_wide ha (pi_one (tk := s1.toks) I1 _ (turn_str _ x t "str_iterator" (.inr rfl)) ⟨_, Heap.get?_push_size _ rfl, rfl, rfl⟩ q)
  · exact wpAny_pyIter_ascii ha (pi_one (tk := s1.toks) I1 _ (turn_str _ x t "str_ascii_iterator" (.inl rfl)) ⟨_, Heap.get?_push_size _ rfl, rfl, rfl⟩ q)

/-! ### a dict's keys: any dict's entries -/
section
variable {prog : Program} {w : World} {A : Around} {E : Value → Shared → Prop} {s : Shared}
end

/-! ### a locked dict -/
section
variable {X : Cx} {pins : List (Addr × Obj)} {σ : St} {H : Hp} {s : Shared} {d : Addr} {o : Obj}
end

section
variable {P : Program} {w : World} {K : PySem.W.Frag} {tg : Expr} {d : Addr} {o : Obj} {es : Array DictEntry} {ep : Nat}
end

/-! ### for k in d, d.keys(), d.values(), d.items() -/
section
variable {X : Cx} {tg e : Expr} {td : TE} {apos cpos : Pos}
end

/-! ### enumerate(list) -/
/-! ### zip(list, list) -/
end L2

section 
namespace Bits
open PySem PyProof.Rows

end Bits
end 

section 
namespace TL
open PySem PySem.Builtin PySem.Builtin.Str PySem.StrLaws

/-! ### the list functions -/
/-- S stands at the head of l -/
def pre (S l : List Nat) : Bool := l.take S.length == S
/-- l cut at each S from the left; k signs are still to be passed over -/
def spl (S : List Nat) : Nat → List Nat → List Nat → List (List Nat)
  | _, acc, [] => [acc]
  | 0, acc, c :: r => if pre S (c :: r) = true then acc :: spl S (S.length - 1) [] r else spl S 0 (acc ++ [c]) r
  | k + 1, acc, _ :: r => spl S k acc r
/-- what stands before the first S, and behind it -/
def par (S : List Nat) : List Nat → List Nat → Option (List Nat × List Nat)
  | _, [] => none
  | acc, c :: r => if pre S (c :: r) = true then some (acc, (c :: r).drop S.length) else par S (acc ++ [c]) r

/-! ### the model's split and partition are these -/
/-! ### computing spl and par -/
/-! ### digits -/
/-! ### words: x.split() -/
end TL
end 

namespace L2
open PySem PySem.Spec PyProof.Rows

/-- a list of texts, of numbered texts -/
theorem vals_strs : ∀ l : List (Str × Tok), Vals ((l.map (·.1)).map V.str) (strValues l)
  | [] => .nil
  | p :: r => .cons ⟨p.2, rfl⟩ (vals_strs r)
theorem strs_of_vals : ∀ {ys : List Str} {us : List Value}, Vals (ys.map V.str) us → StrsAre us ys
  | [], _, .nil => .nil
  | y :: ys, _, .cons r t => by
    obtain ⟨k, rfl⟩ := r
    exact .cons y k (strs_of_vals t)

/-- a new list of texts, tracked -/
def rNewStrs (ys : List Str) : Hp → VK → Prop := fun H Q => ∀ p, H p = none → Q (.ref p) (upd H p (.lst (ys.map V.str)))

section
variable {X : Cx} {pins : List (Addr × Obj)} {σ : St} {H : Hp} {s : Shared} {Q : VK}
theorem laid_strs {l : List (Str × Tok)} {ys : List Str} {k : Nat} (I : Inv X pins σ H s) (e : l.map (·.1) = ys) (hz : ys.length ≤ sizeLine) (h : rNewStrs ys H Q) :
    EP X pins σ Q (.ref s.heap.objs.size) { s with toks := k, heap := s.heap.push { cls := .type "list", data := .seq (strValues l).toArray } } := by
  have hp := I.hok.fresh (Nat.le_refl _)
  refine ⟨.ref s.heap.objs.size, upd H s.heap.objs.size (.lst (ys.map V.str)), I.laid (fun b u q => Heap.get?_push_of_some _ q) (Nat.le_refl _) ⟨by rw [List.length_map]; exact hz, strValues l, _, ?_, Heap.get?_push_size _ rfl⟩, rfl, h _ hp⟩
  rw [← e]
  exact vals_strs l
end

section
variable {X : Cx}

/-- x.split(sep) -/
theorem mt_split : MtR X "str.split" (fun x xs H Q => ∃ a b, x = .str a ∧ xs = [.str b] ∧ (b.length == 0) = false ∧ a.length + 2 ≤ sizeLine ∧ rNewStrs (Txt.split a b) H Q) := by
  intro pins s σ H x xs v us Q I rx rs h
  obtain ⟨a, b, rfl, rfl, hb, hz, h⟩ := h
  obtain ⟨t, rfl⟩ := rx
  cases rs with
  | cons r1 rs =>
    cases rs
    obtain ⟨u, rfl⟩ := r1
    have hl : (Txt.split a b).length ≤ sizeLine := Nat.le_trans (PyProof.Rows.split_le a b) hz
    have hn : (Builtin.Str.partsBetween a (Builtin.Str.occurrences a b 0 a.length (a.length + 1)) b.length).length ≤ sizeLine := by
      have e1 := StrLaws.occ_length_le a b 0 a.length (a.length + 1)
      rw [length_partsBetween]; omega
    cases h1 : (decide (a.length < b.length) || decide (Builtin.Str.strKind a < Builtin.Str.strKind b))
    · cases hf : (Builtin.Str.occurrences a b 0 a.length (a.length + 1)).isEmpty
      · refine call_meets F.slot_str_split (typeIs_str _ _ _) F.entry_str_split (F.args_str_split_2 _ _) (meets_str_split_sep a b t u h1 hb hf (by omega) hn) ?_
        show EP X pins σ Q (.ref s.heap.objs.size) { s with toks := _, heap := s.heap.push { cls := .type "list", data := .seq (strsFrom s.toks (Builtin.Str.partsBetween a (Builtin.Str.occurrences a b 0 a.length (a.length + 1)) b.length)).toArray } }
        rw [strsFrom_eq]
        exact laid_strs (ys := Txt.split a b) I ((numbered_texts _ _).trans ((if_neg (ne_true_of_eq_false h1)).trans (if_neg (ne_true_of_eq_false hf))).symm) hl h
      · refine call_meets F.slot_str_split (typeIs_str _ _ _) F.entry_str_split (F.args_str_split_2 _ _) (meets_str_split_not_found a b t u h1 hb hf) ?_
        exact laid_strs (l := [(a, t)]) (ys := Txt.split a b) (k := s.toks) I ((if_neg (ne_true_of_eq_false h1)).trans (if_pos hf)).symm hl h
    · refine call_meets F.slot_str_split (typeIs_str _ _ _) F.entry_str_split (F.args_str_split_2 _ _) (meets_str_split_cannot_occur a b t u h1) ?_
      exact laid_strs (l := [(a, t)]) (ys := Txt.split a b) (k := s.toks) I (if_pos h1).symm hl h

/-- sep.join(a list | a tuple of texts) -/
theorem mt_join : MtR X "str.join" (fun x xs H Q => ∃ a p, ∃ ys : List Str, x = .str a ∧ xs = [.ref p] ∧ (SqL X.K H p (ys.map V.str) ∨ SqT X.K H p (ys.map V.str)) ∧
    (ys.map (·.length)).sum + ys.length * a.length ≤ 16777216 ∧ Q (.str (Txt.join a ys)) H) := by
  intro pins s σ H x xs v us Q I rx rs h
  obtain ⟨a, p, ys, rfl, rfl, hp, hz, h⟩ := h
  obtain ⟨t, rfl⟩ := rx
  cases rs with
  | cons r1 rs =>
    cases rs
    cases r1
    rcases hp with hp | hp
    · obtain ⟨its, r, ⟨o, n, ho, hc, _, hd⟩, _⟩ := I.list hp
      exact PyProof.Rows.join_list (items := its.toArray) ⟨o, ho, hc, n, hd⟩ (by rw [List.toList_toArray]; exact strs_of_vals r) hz fun t' k => ⟨.str _, H, I.tok k, ⟨t', rfl⟩, h⟩
    · obtain ⟨its, r, ht, _⟩ := I.tuple hp
      exact PyProof.Rows.join_tuple (items := its.toArray) ht (by rw [List.toList_toArray]; exact strs_of_vals r) hz fun t' k => ⟨.str _, H, I.tok k, ⟨t', rfl⟩, h⟩

/-! ### of a text alone -/
/-! ### of a text and a text -/
/-- int(text) -/
theorem call_int_str : CallR X (.type "int") (fun xs H Q => ∃ a n, xs = [.str a] ∧ PySem.intText? a = some n ∧ a.length ≤ 640 ∧ Q (.int n) H) := by
  intro pins s σ H xs us Q I rs h
  obtain ⟨a, n, rfl, hn, hl, h⟩ := h
  cases rs with
  | cons r1 rs =>
    cases rs
    obtain ⟨t, rfl⟩ := r1
    exact PySem.W.KIN.call_text hn hl ⟨.int n, H, I.tok _, ⟨_, rfl⟩, h⟩
end

section
variable {X : Cx} {o e : Expr} {to te : TE}
def tM1 (r : V → List V → Hp → VK → Prop) (to te : TE) : TE := fun σ H Q => to σ H fun x H1 => (∃ a, x = .str a) ∧ te σ H1 fun y H2 => r x [y] H2 Q
theorem pe_m1 {id : String} {name : Str} {apos pos : Pos} {r : V → List V → Hp → VK → Prop} (slot : Slot "str" name id) (ty : typeOf (.builtin id) = pure (.type "method_descriptor")) (rule : MtR X id r) (ho : PE X o to) (he : PE X e te)
    (hs : starEach [e] X.env = [(false, eval e X.env)] := by rfl) (hbase : attributeBase o name X.env (eval o X.env) = eval o X.env := by rfl) (hline : (apos.endLine == pos.line) = true := by rfl) :
    PE X (.Call (.Attribute o name apos) [e] [] pos) (tM1 r to te) := by
  intro pins s σ H Q I h
  refine PySem.Call_method1 hbase hs hline (thn (ho pins s σ H _ I h) fun v s1 ⟨x, H1, I1, r1, q1⟩ => ?_)
  obtain ⟨⟨a, rfl⟩, q1⟩ := q1
  obtain ⟨t, rfl⟩ := _root_.id r1
  refine ⟨"str", _, F.plainAttrs_str, slot, ty, typeIs_str _ _ _, (fun _ e => nomatch e), Calls.callWith_builtin rfl (Calls.evalArgs_plain (Calls.spliced_cons ?_))⟩
  exact thn (he pins s1 σ H1 _ I1 q1) fun u s2 ⟨y, H2, I2, r2, q2⟩ => Calls.spliced_nil (rule pins s2 σ H2 _ [y] _ [u] Q I2 r1 (.cons r2 .nil) q2)

theorem pe_split {apos pos : Pos} (ho : PE X o to) (he : PE X e te) (hs : starEach [e] X.env = [(false, eval e X.env)] := by rfl) (hbase : attributeBase o "split" X.env (eval o X.env) = eval o X.env := by rfl) (hline : (apos.endLine == pos.line) = true := by rfl) :
    PE X (.Call (.Attribute o "split" apos) [e] [] pos) (tM1 (fun x xs H Q => ∃ a b, x = .str a ∧ xs = [.str b] ∧ (b.length == 0) = false ∧ a.length + 2 ≤ sizeLine ∧ rNewStrs (Txt.split a b) H Q) to te) :=
  pe_m1 F.slot_str_split F.type_str_split mt_split ho he hs hbase hline
theorem pe_join {apos pos : Pos} (ho : PE X o to) (he : PE X e te) (hs : starEach [e] X.env = [(false, eval e X.env)] := by rfl) (hbase : attributeBase o "join" X.env (eval o X.env) = eval o X.env := by rfl) (hline : (apos.endLine == pos.line) = true := by rfl) :
    PE X (.Call (.Attribute o "join" apos) [e] [] pos) (tM1 (fun x xs H Q => ∃ a p, ∃ ys : List Str, x = .str a ∧ xs = [.ref p] ∧ (SqL X.K H p (ys.map V.str) ∨ SqT X.K H p (ys.map V.str)) ∧
      (ys.map (·.length)).sum + ys.length * a.length ≤ 16777216 ∧ Q (.str (Txt.join a ys)) H) to te) :=
  pe_m1 F.slot_str_join F.type_str_join mt_join ho he hs hbase hline
end
end L2

namespace L2
open PySem PySem.Spec PyProof.Rows

section
variable {X : Cx}
/-- one sign in a text -/
theorem op_in_sign : OpR X (compareOp .In) (fun x y H Q => ∃ (c : Nat) (z : Str), x = .str ⟨#[c]⟩ ∧ y = .str z ∧ Q (.bl (decide (c ∈ z.cps.toList))) H) := by
  intro pins s σ H x y v u Q I rx ry h
  obtain ⟨c, z, rfl, rfl, q⟩ := h
  obtain ⟨t, rfl⟩ := rx
  obtain ⟨t', rfl⟩ := ry
  exact PyProof.Rows.in_str (fin_bl I q (PySem.StrLaws.found_one z c).symm)
end

/-! ### slices of a text -/
end L2

namespace Att
open PySem PySem.W PySem.Calls PyProof.Rows

/-! ### the script -/
theorem ints_of_wellAll {P : Params} {h : Heap} : ∀ (ns : List Int) (vs : List Value), WellAll P h vs (ns.map WData.int) → IntsAre vs ns := by
  intro ns
  induction ns with
  | nil =>
    intro vs w
    rw [List.map_nil] at w
    cases w
    exact .nil
  | cons n ns ih =>
    intro vs w
    rw [List.map_cons] at w
    cases w with
    | cons a b =>
      cases a
      exact .cons _ _ (ih _ b)

theorem script_of {l : OpenLaw} {n : Nat} (hn : l.most = some n) {P : Params} {h : Heap} {args : List WData} {vals : List Value}
    (hpre : l.row.toRowW.claim.pre args = true) (hwl : WellAll P h vals args) :
    ∃ a vs ns, vals = [Value.ref a] ∧ args = [WData.list (ns.map WData.int)] ∧ h.get? a = some { cls := .type "list", data := .seq vs.toArray } ∧ IntsAre vs ns ∧ ns.length ≤ n := by
  have hsh : WShape.hasAll [] args [.list .int] = true := (pre_splitW hpre).1
  have hc : l.pre.holds [] { args := args } = true := (pre_splitW hpre).2
  obtain ⟨d, r, rfl, h1, h2⟩ := hasAllW_cons hsh
  obtain rfl := hasAllW_nil h2
  obtain ⟨xs, rfl, h3⟩ := hasW_list h1
  obtain ⟨ns, rfl⟩ := items_int h3
  have hlen : ns.length ≤ n := by
    unfold OpenLaw.pre at hc
    have h4 : (WTm.not (.lt (.lit (.int (n : Int))) (.len (.arg 0)))).holds [] { args := [.list (ns.map .int)] } = true := by
      have h4 := (holds_andW hc).1
      rw [hn] at h4
      exact h4
    have h5 := condW_of h4 (w_not (w_lt w_lit (w_len_list (w_arg rfl))))
    rw [List.length_map] at h5
    refine Nat.le_of_not_lt fun q => ?_
    have q' : (n : Int) < ((ns.length : Nat) : Int) := by omega
    first
      | (rw [decide_eq_true q'] at h5; exact absurd h5 (by decide))
      | (simp at h5; omega)
  cases hwl with
  | cons w1 w2 =>
    cases w2
    cases w1 with
    | list ho hall => exact ⟨_, _, ns, rfl, rfl, ho, ints_of_wellAll ns _ hall, hlen⟩

theorem post_true (l : OpenLaw) (args : List WData) : l.row.toRowW.claim.post args (.bool true) args = true :=
  postW_of (r := l.row.toRowW) (X := (true == true))
    (show WShape.has [] (.bool true) .bool = true by first | rfl | decide | simp [WShape.has, WShape.arms, WShape.armsAll])
    (show (WTm.eq .res (.lit (.bool true))).value [] { args := args, res := some (.bool true), after := args } = some (.bool (true == true)) from w_eq_bool (w_res rfl) w_lit) rfl

/-! ### the attachment: holds_open's last premise (the goal 'hc' behind k_head) from a wpAny of the law's body -/
/-- the same from a codeAny of the CALL (for a layer whose function contracts speak of calls) -/
theorem attach_call {l : OpenLaw} {n : Nat} {q : Program} {loose : List Str} {XP : (Str → Option Value) → Heap → Prop} {YP : World → Heap → Prop} {d : DefRec}
    (hn : l.most = some n) (hdf : d.params.defaults = [])
    (call : ∀ (w : World) (s₀ s₁ : Shared) (mg mb : Str → Option Value) (fa : Addr) (o : Obj) (pm cd doc : Value) (a : Addr) (vs : List Value) (ns : List Int),
      Ground q loose [] XP w s₀ mg mb s₁.heap → YP w s₁.heap →
      s₁.heap.get? fa = some o → o.data = .func (docDef d.name d.params d.body d.scope pm cd doc) → s₁.heap.CodeRec cd d.name → mg d.name = some (.ref fa) →
      s₁.heap.get? a = some { cls := .type "list", data := .seq vs.toArray } → IntsAre vs ns → ns.length ≤ n → s₁.gens = #[] →
      codeAny (model l.prog w) callerA (.call (.ref fa) ⟨[.ref a], []⟩) (fun r s' => r = .ok (.ret (.bool true)) ∧ OldK s₁.heap s'.heap ∧ s'.os = s₁.os ∧ AllBare s'.gens) s₁) :
    WalkO q loose XP YP l.row.toRowW d [] (fun f vs => PySem.call f vs) := by
  intro w s₀ s₁ mg mb G Y fa o pm cd doc dV kV ho hd hcd hD hmg hg args vals as hpre hlay hrd hwl hlo
  obtain rfl : dV = .none := Dflts.none hD hdf
  obtain rfl : kV = .none := Dflts.noKw hD
  obtain ⟨a, vs, ns, rfl, rfl, hobj, hints, hlen⟩ := script_of hn hpre hwl
  refine enter_call (codeAny_mono (call w s₀ s₁ mg mb fa o pm cd doc a vs ns G Y ho (fd_plain hd) hcd hmg hobj hints hlen hg) fun r s' hq => ?_)
  obtain ⟨rfl, h2, h3, h4⟩ := hq
  exact ⟨.inl ⟨.bool true, .bool true, [], rfl, fun _ => rfl, .bool true, post_true l _, fun _ => ⟨List.Pairwise.nil, fun _ hm => (nomatch hm)⟩⟩, h2, h3, h4⟩

/-! ### rules over ANY heap (no ledger) from facts about the written part K: the library's own take a ledger (News) for what they write -/
section
variable {prog : Program} {w : World} {A : Around} {E : Value → Shared → Prop} {s : Shared} {K : Frag}

/-! the whole heap as the ledger: makes every rule that writes through a ledger a rule over any heap -/
def ledger (h : Heap) (L d : Addr) : List (Addr × Obj) := (List.range h.objs.size).filterMap fun a => if a = L ∨ a = d then none else (h.get? a).map fun o => (a, o)
end
end Att

namespace L2
open PySem PySem.Spec PyProof.Rows

theorem vals_ints : ∀ {vs : List Value} {ns : List Int}, IntsAre vs ns → Vals (ns.map V.int) vs
  | _, _, .nil => .nil
  | _, _, .cons n t h => .cons ⟨t, rfl⟩ (vals_ints h)

end L2

namespace L2
open PySem PySem.Spec PyProof.Rows

end L2

/- THE LAST THEOREM (shape; LID, My.* are yours):
   My.Adr: a structure of the addresses that your layer names (classes, functions); My.Txt K t: a structure (Prop) of the equations over K;
   My.txt_mk : {K} {implicit addresses ..} (e1 : nsIn K mainGlobals "law" = some (some (.ref f))) (e2 : K.lookup f = some ⟨oc, od, .func (fnOf "law" "law" params body scope dV kV doc pm an cdv ct), sl⟩) (e3 : codeIn K cdv "law" = true) .. : ∃ t, My.Txt K t

(the tactic k_is has no namespace: write k_is) -/

/-! SHORT WORDS over the layer: a def of the text, its body, what a loop and a test want. -/
namespace L2
open PySem PySem.Spec PyProof.Rows

/-! ### the text by places -/
def defArgs (s : Stmt) : Arguments := match s with
  | .FunctionDef _ a _ _ _ _ _ _ _ _ => a
  | _ => { posonlyargs := [], args := [], vararg := none, kwonlyargs := [], kw_defaults := [], kwarg := none, defaults := [] }
def defBody (s : Stmt) : List Stmt := match s with
  | .FunctionDef _ _ b _ _ _ _ _ _ _ => b
  | _ => []
def defScope (s : Stmt) : Scope := match s with
  | .FunctionDef _ _ _ _ _ _ sc _ _ _ => sc
  | _ => { kind := .function, names := [], isGenerator := false, isCoroutine := false }

/-! ### no exception leaves a def -/
abbrev CX0 : CXT := fun _ _ _ _ _ _ => False
abbrev E0 : XK := fun _ _ _ => False
theorem pass0 {X : Cx} : Passes CX0 X E0 := fun _ _ _ _ _ _ _ h => h.elim

/-! ### a def (or method) of the text as it stands behind the top -/
structure Fun (K : PySem.W.Frag) (x qual : Str) (st : Stmt) (f : Addr) (fd : FuncData) : Prop where
  ex : ∃ (oc : Value) (od : Option Addr) (kV doc pm : Value) (an : Option Addr) (cdv ct : Value) (osl : Array (Option Value)),
    fd = PySem.W.fnOf x qual (defArgs st) (defBody st) (defScope st) .none kV doc pm an cdv ct ∧ K.lookup f = some ⟨oc, od, .func fd, osl⟩ ∧ PySem.W.codeIn K cdv qual = true
  kp : PySem.W.keepIn K (.ref f) = true
section
variable {P : Program} {w : World} {K : PySem.W.Frag} {mg : Str → Option Value} {base : Heap}
/-- THE RULE for a def: its body as a term of rules, and the reading of that term -/
theorem Fun.ok {x qual : Str} {st : Stmt} {f : Addr} {fd : FuncData} {N ps : List Str} {k : Nat} {sp : Sp} (F : Fun K x qual st f fd) (S : FnScope N ps (defScope st)) (len : ∀ vs H Q E, sp vs H Q E → vs.length = ps.length)
    (hbody : ∀ (cdv : Value) (A : Around) (outer : List Env) (s : Shared) (H : Hp) (vs : List V) (Q : VK) (E : XK), Room k (A.deeper (envOfC qual (defScope st) s.heap.objs.size f cdv)) → sp vs H Q E →
      ∃ t, PSs (cxOf CX0 P w K mg base N qual (defScope st) f cdv A outer s H E).nox (defBody st) t ∧ t { nx := fun _ H' => Q .non H', rt := Q } (start N vs) H) : FnOk P w K mg base CX0 (k + 1) f fd ps sp := by
  obtain ⟨oc, od, kV, doc, pm, an, cdv, ct, osl, rfl, lk, hcd⟩ := F.ex
  refine fn_of lk hcd S len fun A outer s H vs Q E hr hsp => ?_
  obtain ⟨t, h, q⟩ := hbody cdv A outer s H vs Q E hr hsp
  exact ⟨t, h.nox, q⟩
end
/-! ### expressions in short: the name that stands in the i-th slot -/
section
variable {X : Cx}
theorem pv (i : Nat) {x : Str} {pos : Pos} (hN : X.N[i]? = some x := by rfl) (hv : Vis X.env.scope x := by first | exact Or.inl rfl | exact Or.inr (Or.inl rfl) | exact Or.inr (Or.inr rfl)) (hd : (x == ("__debug__" : Str)) = false := by decide)
    (hcd : (x == ("__classdict__" : Str)) = false := by decide) : PE X (.Name x pos) (tVar i) := pe_var hN hv hd hcd
end

/-! ### tests -/
/-! ### heaps -/
/-- all that was tracked is as it was -/
def Same (H H' : Hp) : Prop := ∀ b o, H b = some o → H' b = some o
theorem Same.refl (H : Hp) : Same H H := fun _ _ h => h
theorem Same.trans {H H1 H2 : Hp} (a : Same H H1) (b : Same H1 H2) : Same H H2 := fun c o h => b c o (a c o h)
theorem Same.free {H H' : Hp} (e : Same H H') {l : Addr} (h : H' l = Option.none) : H l = Option.none := by
  cases q : H l with
  | none => rfl
  | some o =>
    rw [e l o q] at h
    cases h
theorem Same.seq {K : PySem.W.Frag} {H H' : Hp} {a : Addr} {xs : List V} (e : Same H H') (h : SqL K H a xs) : SqL K H' a xs := by
  rcases h with (h | ⟨o, h⟩) | h
  · exact .inl (.inl (e _ _ h))
  · exact .inl (.inr ⟨o, e _ _ h⟩)
  · exact .inr h

/-! ### a dict's pairs: keys that differ -/
section
variable {κ : Type} [DecidableEq κ]
end
/-! ### lists -/
end L2
set_option maxHeartbeats 1000000
namespace Us
open PySem PySem.SetTable
/-! ### the way of a search through a set's table -/
def nth (t : SetTable) : Nat → Probe → Probe
  | 0, p => p
  | n + 1, p => nth t n (t.advance p)
/-- a run's start -/
structure St (t : SetTable) (p : Probe) : Prop where
  j : p.j = p.i
  more : p.more = runEnd t.mask p.i - p.i
  le : p.i ≤ t.mask
  dum : p.dummy = none
def Msk (m : Nat) : Prop := m = 7 ∨ m = 31 ∨ m = 127
/-! ### rising places -/
def Rise (xs : Array Nat) : Prop := ∀ a b x y : Nat, a < b → xs[a]? = some x → xs[b]? = some y → x < y
/-! ### a new place -/
end Us
set_option maxHeartbeats 1000000
namespace Us
open PySem PySem.SetTable
/-! ### a table laid anew -/
def tm (mask : Nat) : SetTable := { fresh 0 0 true with mask := mask }
abbrev way (mask : Nat) (h : Int) (n : Nat) : Nat := (nth (tm mask) n ((tm mask).probeStart h)).j
def Full (owner : Array (Option Nat)) (j : Nat) : Prop := ∃ k, owner[j]? = some (some k)
def ReachO (mask : Nat) (owner : Array (Option Nat)) (h : Int) (j : Nat) : Prop := ∃ n, way mask h n = j ∧ ∀ m < n, Full owner (way mask h m)
structure LayI (mask : Nat) (done : List Int) (owner : Array (Option Nat)) : Prop where
  size : owner.size = mask + 1
  has : ∀ (k : Nat) (h : Int), done[k]? = some h → ∃ j, owner[j]? = some (some k) ∧ ReachO mask owner h j
  inj : ∀ (j j' k : Nat), owner[j]? = some (some k) → owner[j']? = some (some k) → j = j'
  lt : ∀ (j k : Nat), owner[j]? = some (some k) → k < done.length
  cnt : (owner.toList.filter (·.isNone)).length = mask + 1 - done.length
/-- a table laid of these hashes: each stands once, on its way -/
structure Laid (mask : Nat) (hashes : List Int) (place order : Array Nat) : Prop where
  rise : Rise place
  size : place.size = hashes.length
  osize : order.size = hashes.length
  le : ∀ (i j : Nat), place[i]? = some j → j ≤ mask
  nd : order.toList.Nodup
  lt : ∀ k ∈ order.toList, k < hashes.length
  all : ∀ k < hashes.length, k ∈ order.toList
  reach : ∀ (i j k : Nat) (h : Int), place[i]? = some j → order[i]? = some k → hashes[k]? = some h → ∃ n, way mask h n = j ∧ ∀ m < n, ∃ i' : Nat, place[i']? = some (way mask h m)
end Us
set_option maxHeartbeats 1000000
/-! ### the sort's own tree of questions, by a strict order of unlike things -/
namespace Ss
open PySem PySem.W PyProof.Rows
/-- along the answers, what is asked lies below n, and the end is as wanted -/
def Run {α : Type} (lt : Nat → Nat → Bool) (n : Nat) (Q : α → Prop) : KasT α → Prop
  | .ret a => Q a
  | .ask i j k => i < n ∧ j < n ∧ Run lt n Q (k (lt i j))
theorem Run.bind {α β : Type} {lt : Nat → Nat → Bool} {n : Nat} {Q : β → Prop} {f : α → KasT β} : ∀ {t : KasT α}, Run lt n (fun a => Run lt n Q (f a)) t → Run lt n Q (t.bind f)
  | .ret _, h => h
  | .ask _ _ _, h => ⟨h.1, h.2.1, Run.bind h.2.2⟩
theorem Run.imp {α : Type} {lt : Nat → Nat → Bool} {n : Nat} {P Q : α → Prop} (hq : ∀ a, P a → Q a) : ∀ {t : KasT α}, Run lt n P t → Run lt n Q t
  | .ret _, h => hq _ h
  | .ask _ _ _, h => ⟨h.1, h.2.1, Run.imp hq h.2.2⟩
theorem Run.wp {α : Type} {lt : Nat → Nat → Bool} {n : Nat} {P : α → Prop} {cmp : Nat → Nat → (Bool → Shared → Prop) → Shared → Prop} {s : Shared} {Q : α → Shared → Prop} (hc : ∀ i j, i < n → j < n → ∀ C : Bool → Shared → Prop, C (lt i j) s → cmp i j C s) (hq : ∀ a, P a → Q a s) : ∀ {t : KasT α}, Run lt n P t → t.kasWp cmp Q s
  | .ret _, h => hq _ h
  | .ask i j k, h => hc i j h.1 h.2.1 _ (Run.wp hc hq h.2.2)
structure Ord (lt : Nat → Nat → Bool) (n : Nat) : Prop where
  asym : ∀ i j, lt i j = true → lt j i = false
  trans : ∀ i j k, lt i j = true → lt j k = true → lt i k = true
  tot : ∀ i j, i < n → j < n → i ≠ j → lt i j = false → lt j i = true
abbrev at_ (p : Array Nat) (k : Nat) : Nat := p.getD k 0
theorem at_eq (p : Array Nat) (k : Nat) : at_ p k = p[k]?.getD 0 := by
  unfold at_
  simp [Array.getD_eq_getD_getElem?]
structure Pm (n : Nat) (p : Array Nat) : Prop where
  pm : p.toList.Perm (List.range n)
theorem Pm.size {n : Nat} {p : Array Nat} (h : Pm n p) : p.size = n := by
  have := h.pm.length_eq
  rw [List.length_range] at this
  simpa using this
theorem Pm.get {n : Nat} {p : Array Nat} (h : Pm n p) {k : Nat} (hk : k < n) : p[k]? = some (at_ p k) := by
  have hs := h.size
  rw [at_eq, Array.getElem?_eq_getElem (by omega)]; rfl
theorem Pm.lt {n : Nat} {p : Array Nat} (h : Pm n p) {k : Nat} (hk : k < n) : at_ p k < n := by
  have hm : at_ p k ∈ p.toList := by
    have := h.get hk
    rw [← Array.getElem?_toList] at this
    exact List.mem_of_getElem? this
  exact List.mem_range.mp (h.pm.mem_iff.mp hm)
theorem Pm.ne {n : Nat} {p : Array Nat} (h : Pm n p) {i j : Nat} (hi : i < n) (hj : j < n) (hij : i ≠ j) : at_ p i ≠ at_ p j := by
  have nd : p.toList.Nodup := h.pm.nodup_iff.mpr List.nodup_range
  intro e
  have h1 := h.get hi
  have h2 := h.get hj
  rw [← Array.getElem?_toList] at h1 h2
  rw [e] at h1
  have hl : i < p.toList.length := by rw [Array.length_toList, h.size]; exact hi
  exact hij ((List.getElem?_inj hl nd).mp (h1.trans h2.symm))
theorem Pm.perm {n : Nat} {p q : Array Nat} (h : Pm n p) (hq : q.Perm p) : Pm n q := ⟨(Array.perm_iff_toList_perm.mp hq).trans h.pm⟩
/-- the first k rise -/
def SP (lt : Nat → Nat → Bool) (p : Array Nat) (k : Nat) : Prop := ∀ i j, i < j → j < k → lt (at_ p i) (at_ p j) = true
def DP (lt : Nat → Nat → Bool) (p : Array Nat) (k : Nat) : Prop := ∀ i j, i < j → j < k → lt (at_ p j) (at_ p i) = true
section
variable {lt : Nat → Nat → Bool} {n : Nat} (O : Ord lt n)
include O
theorem sp_succ {p : Array Nat} {k : Nat} (h : SP lt p k) (hk : 1 ≤ k) (hl : lt (at_ p (k - 1)) (at_ p k) = true) : SP lt p (k + 1) := fun i j hij hj => by
  by_cases hjk : j < k
  · exact h i j hij hjk
  · have : j = k := by omega
    subst this
    by_cases hi : i = j - 1
    · rw [hi]; exact hl
    · exact O.trans _ _ _ (h i (j - 1) (by omega) (by omega)) hl
theorem dp_succ {p : Array Nat} {k : Nat} (h : DP lt p k) (hk : 1 ≤ k) (hl : lt (at_ p k) (at_ p (k - 1)) = true) : DP lt p (k + 1) := fun i j hij hj => by
  by_cases hjk : j < k
  · exact h i j hij hjk
  · have : j = k := by omega
    subst this
    by_cases hi : i = j - 1
    · rw [hi]; exact hl
    · exact O.trans _ _ _ hl (h i (j - 1) (by omega) (by omega))
theorem asc_run {p : Array Nat} (hp : Pm n p) : ∀ (f k : Nat), 1 ≤ k → k + f ≤ n → SP lt p k → Run lt n (fun m => k ≤ m ∧ m ≤ k + f ∧ SP lt p m ∧ (m < k + f → lt (at_ p m) (at_ p (m - 1)) = true)) (kas_asc p f k)
  | 0, k, h1, h2, h => ⟨Nat.le_refl _, Nat.le_refl _, h, fun z => absurd z (Nat.lt_irrefl _)⟩
  | f + 1, k, h1, h2, h => by
    refine ⟨hp.lt (by omega), hp.lt (by omega), ?_⟩
    cases hc : lt (at_ p k) (at_ p (k - 1)) with
    | true => exact ⟨Nat.le_refl _, by omega, h, fun _ => hc⟩
    | false =>
      have := O.tot _ _ (hp.lt (by omega)) (hp.lt (by omega)) (hp.ne (by omega) (by omega) (by omega)) hc
      refine Run.imp (fun m hm => ?_) (asc_run hp f (k + 1) (by omega) (by omega) (sp_succ O h h1 this))
      exact ⟨by omega, by omega, hm.2.2.1, fun z => hm.2.2.2 (by omega)⟩
theorem desc_run {p : Array Nat} (hp : Pm n p) : ∀ (f k : Nat), 1 ≤ k → k + f ≤ n → DP lt p k → Run lt n (fun r => r.1 = p ∧ k ≤ r.2.1 ∧ r.2.1 ≤ k + f ∧ r.2.2 = 0 ∧ DP lt p r.2.1) (kas_desc f p k 0)
  | 0, k, h1, h2, h => ⟨rfl, Nat.le_refl _, Nat.le_refl _, rfl, h⟩
  | f + 1, k, h1, h2, h => by
    refine ⟨hp.lt (by omega), hp.lt (by omega), ?_⟩
    cases hc : lt (at_ p k) (at_ p (k - 1)) with
    | true =>
      refine Run.imp (fun r hr => ?_) (desc_run hp f (k + 1) (by omega) (by omega) (dp_succ O h h1 hc))
      exact ⟨hr.1, by omega, by omega, hr.2.2.2.1, hr.2.2.2.2⟩
    | false =>
      have := O.tot _ _ (hp.lt (by omega)) (hp.lt (by omega)) (hp.ne (by omega) (by omega) (by omega)) hc
      refine ⟨hp.lt (by omega), hp.lt (by omega), ?_⟩
      rw [this]
      exact ⟨rfl, Nat.le_refl _, by show k ≤ k + (f + 1); omega, rfl, h⟩
theorem rev_pm {p : Array Nat} (hp : Pm n p) (i j : Nat) : Pm n (kas_rev p i j) := hp.perm (mirror_perm _ _ _ _)
theorem rev_sp {p : Array Nat} (hp : Pm n p) {m : Nat} (hm : m ≤ n) (h : DP lt p m) : SP lt (kas_rev p 0 m) m := fun i j hij hj => by
  have e : ∀ k, k < m → at_ (kas_rev p 0 m) k = at_ p (m - 1 - k) := fun k hk => by
    rw [at_eq, at_eq]
    unfold kas_rev
    rw [getElem?_mirror_all (by rw [hp.size]; exact hm), if_pos ⟨Nat.zero_le _, hk⟩, Nat.zero_add]
  rw [e i (by omega), e j hj]
  exact h (m - 1 - j) (m - 1 - i) (by omega) (by omega)
theorem tail_run {p : Array Nat} (hp : Pm n p) {m : Nat} (h1 : 1 ≤ m) (hm : m ≤ n) (h : DP lt p m) : Run lt n (fun r => Pm n r.2 ∧ SP lt r.2 r.1 ∧ 1 ≤ r.1 ∧ r.1 ≤ n) (kas_tail3 m n p) := by
  unfold kas_tail3
  refine Run.bind (Run.imp (fun a ha => ?_) (asc_run O (rev_pm O hp 0 m) (n - m) m h1 (by omega) (rev_sp O hp hm h)))
  exact ⟨rev_pm O hp 0 m, ha.2.2.1, by omega, by omega⟩
theorem count_run {p : Array Nat} (hp : Pm n p) (hn : 1 ≤ n) : Run lt n (fun r => Pm n r.2 ∧ SP lt r.2 r.1 ∧ 1 ≤ r.1 ∧ r.1 ≤ n) (kas_count n p) := by
  unfold kas_count
  refine Run.bind (Run.imp (fun a ha => ?_) (asc_run O hp (n - 1) 1 (Nat.le_refl _) (by omega) (fun i j hij hj => by omega)))
  obtain ⟨a1, a2, a3, a4⟩ := ha
  by_cases he : a = n
  · rw [if_pos (by simp [he])]
    exact ⟨hp, a3, a1, by omega⟩
  · rw [if_neg (by simp [he])]
    by_cases h1 : a > 1
    · rw [if_pos h1]
      refine ⟨hp.lt (by omega), hp.lt (by omega), ?_⟩
      rw [a3 0 (a - 1) (by omega) (by omega)]
      show Run lt n _ (if true = true then _ else _)
      rw [if_pos rfl]
      exact ⟨hp, a3, a1, by omega⟩
    · rw [if_neg h1]
      have ha1 : a = 1 := by omega
      subst ha1
      have h10 := a4 (by omega)
      unfold kas_descPart
      refine Run.bind (Run.imp (fun r hr => ?_) (desc_run O hp (n - 2) 2 (by decide) (by omega) (fun i j hij hj => ?_)))
      · obtain ⟨r1, r2, r3, r4, r5⟩ := hr
        rw [if_neg (by omega), r1]
        exact tail_run O hp (by omega) (by omega) r5
      · have hi : i = 0 := by omega
        have hj' : j = 1 := by omega
        subst hi hj'
        exact h10
theorem place_run {p : Array Nat} (hp : Pm n p) {k : Nat} (hk : k < n) (h : SP lt p k) : ∀ (f l r : Nat), l ≤ r → r ≤ k → r - l ≤ f → (∀ i, i < l → lt (at_ p i) (at_ p k) = true) → (∀ i, r ≤ i → i < k → lt (at_ p k) (at_ p i) = true) →
    Run lt n (fun m => m ≤ k ∧ (∀ i, i < m → lt (at_ p i) (at_ p k) = true) ∧ (∀ i, m ≤ i → i < k → lt (at_ p k) (at_ p i) = true)) (kas_place p k f l r)
  | 0, l, r, h1, h2, h3, ha, hb => by
    have : l = r := by omega
    subst this
    exact ⟨h2, ha, hb⟩
  | f + 1, l, r, h1, h2, h3, ha, hb => by
    unfold kas_place
    by_cases hlr : l ≥ r
    · rw [if_pos hlr]
      have : l = r := by omega
      subst this
      exact ⟨h2, ha, hb⟩
    · rw [if_neg hlr]
      have m1 : (l + r) / 2 < r := by omega
      have m0 : l ≤ (l + r) / 2 := by omega
      refine ⟨hp.lt hk, hp.lt (by omega), ?_⟩
      cases hc : lt (at_ p k) (at_ p ((l + r) / 2)) with
      | true =>
        show Run lt n _ (if true = true then _ else _)
        rw [if_pos rfl]
        refine place_run hp hk h f l ((l + r) / 2) m0 (by omega) (by omega) ha fun i hi hik => ?_
        by_cases e : i = (l + r) / 2
        · rw [e]; exact hc
        · exact O.trans _ _ _ hc (h _ _ (by omega) hik)
      | false =>
        show Run lt n _ (if false = true then _ else _)
        rw [if_neg (by simp)]
        have hc2 := O.tot _ _ (hp.lt hk) (hp.lt (by omega)) (hp.ne hk (by omega) (by omega)) hc
        refine place_run hp hk h f ((l + r) / 2 + 1) r (by omega) h2 (by omega) (fun i hi => ?_) hb
        by_cases e : i = (l + r) / 2
        · rw [e]; exact hc2
        · exact O.trans _ _ _ (h _ _ (by omega) (by omega)) hc2
theorem bubble_sp {p : Array Nat} (hp : Pm n p) {k m : Nat} (hk : k < n) (h : SP lt p k) (hm : m ≤ k) (ha : ∀ i, i < m → lt (at_ p i) (at_ p k) = true) (hb : ∀ i, m ≤ i → i < k → lt (at_ p k) (at_ p i) = true) : SP lt (bubble p k (k - m)) (k + 1) := fun i j hij hj => by
  have e : ∀ x, at_ (bubble p k (k - m)) x = if x = m then at_ p k else if m < x ∧ x ≤ k then at_ p (x - 1) else at_ p x := fun x => by
    rw [at_eq, getElem?_bubble (by rw [hp.size]; exact hk) (k - m) (by omega), show k - (k - m) = m by omega]
    split
    · rw [at_eq]
    · split <;> rw [at_eq]
  rw [e i, e j]
  by_cases hi : i = m
  · rw [if_pos hi, if_neg (by omega), if_pos (by omega)]
    exact hb (j - 1) (by omega) (by omega)
  · rw [if_neg hi]
    by_cases hi2 : m < i ∧ i ≤ k
    · rw [if_pos hi2, if_neg (by omega), if_pos (by omega)]
      exact h _ _ (by omega) (by omega)
    · rw [if_neg hi2]
      by_cases hj1 : j = m
      · rw [if_pos hj1]
        exact ha i (by omega)
      · rw [if_neg hj1]
        by_cases hj2 : m < j ∧ j ≤ k
        · rw [if_pos hj2]
          exact h _ _ (by omega) (by omega)
        · rw [if_neg hj2]
          exact h _ _ hij (by omega)
theorem bin_run : ∀ (f : Nat) (p : Array Nat) (k : Nat), Pm n p → k + f ≤ n → SP lt p k → Run lt n (fun r => Pm n r ∧ SP lt r (k + f)) (kas_bin f p k)
  | 0, p, k, hp, _, h => ⟨hp, h⟩
  | f + 1, p, k, hp, hk, h => by
    unfold kas_bin
    refine Run.bind (Run.imp (fun m hm => ?_) (place_run O hp (by omega) h k 0 k (Nat.zero_le _) (Nat.le_refl _) (by omega) (fun i hi => by omega) (fun i h1 h2 => by omega)))
    refine Run.imp (fun r hr => ?_) (bin_run f _ (k + 1) (hp.perm (bubble_perm _ _ _)) (by omega) (bubble_sp O hp (by omega) h hm.1 hm.2.1 hm.2.2))
    rw [show k + (f + 1) = k + 1 + f by omega]
    exact hr
theorem sort_run (hn : 1 ≤ n) : Run lt n (fun p => Pm n p ∧ SP lt p n) (kas_sort n) := by
  unfold kas_sort
  have hp : Pm n (List.toArray (List.range n)) := ⟨by simp⟩
  refine Run.bind (Run.imp (fun r hr => ?_) (count_run O hp hn))
  obtain ⟨r1, r2, r3, r4⟩ := hr
  by_cases h : r.1 < n
  · rw [if_pos h]
    rw [show max r.1 1 = r.1 by omega]
    refine Run.imp (fun q hq => ?_) (bin_run O (n - r.1) r.2 r.1 r1 (by omega) r2)
    rw [show r.1 + (n - r.1) = n by omega] at hq
    exact hq
  · rw [if_neg h]
    have : r.1 = n := by omega
    rw [this] at r2
    exact ⟨r1, r2⟩
end
end Ss
namespace Q2
open PySem L2

/-- data as trees; lists (and dicts) by their place in the store -/
inductive D where
  | non | bl (b : Bool) | int (i : Int) | str (x : Str) | tup (ds : List D) | loc (n : Nat)
inductive Cell where
  | lst (ds : List D)
  | ro (ds : List D)
  | dk (kvs : List (Key × D))
  | dt (kvs : List (List Key × D))
/-- a dict -/
def Cell.isD : Cell → Bool
  | .dk _ => true
  | .dt _ => true
  | _ => false
abbrev Store := List Cell
abbrev Sg := List (Option D)
abbrev Ev := Sg → Store → Option (D × Store)
abbrev EvA := Sg → Store → Option (List D × Store)
abbrev EvT := Sg → Store → Option (Bool × Store)
inductive Fl where
  | nx (σ : Sg) (S : Store)
  | rt (d : D) (S : Store)
  | bk (σ : Sg) (S : Store)
  | ct (σ : Sg) (S : Store)
abbrev Sv := Sg → Store → Option Fl
abbrev Fn := List D → Store → Option (D × Store)

/-- a tuple that is tracked -/
def SqT (_ : PySem.W.Frag) (H : Hp) (a : Addr) (xs : List V) : Prop := H a = some (.tup xs)
theorem SqT.of {K : PySem.W.Frag} {H : Hp} {a : Addr} {xs : List V} (h : H a = some (.tup xs)) : SqT K H a xs := h
theorem SqT.any {K : PySem.W.Frag} {H : Hp} {a : Addr} {xs : List V} (h : SqT K H a xs) : L2.SqT K H a xs := .inl (.inl h)
mutual
inductive Rel (K : PySem.W.Frag) (H : Hp) (ρ : List Addr) : D → V → Prop
  | non : Rel K H ρ .non .non
  | bl (b : Bool) : Rel K H ρ (.bl b) (.bl b)
  | int (i : Int) : Rel K H ρ (.int i) (.int i)
  | str (x : Str) : Rel K H ρ (.str x) (.str x)
  | tup {a : Addr} {ds : List D} {vs : List V} : SqT K H a vs → RelL K H ρ ds vs → Rel K H ρ (.tup ds) (.ref a)
  | loc {n : Nat} {a : Addr} : ρ[n]? = some a → Rel K H ρ (.loc n) (.ref a)
inductive RelL (K : PySem.W.Frag) (H : Hp) (ρ : List Addr) : List D → List V → Prop
  | nil : RelL K H ρ [] []
  | cons {d : D} {v : V} {ds : List D} {vs : List V} : Rel K H ρ d v → RelL K H ρ ds vs → RelL K H ρ (d :: ds) (v :: vs)
end

def CellOk (K : PySem.W.Frag) (H : Hp) (ρ : List Addr) (a : Addr) : Cell → Prop
  | .lst ds => ∃ vs, H a = some (.lst vs) ∧ RelL K H ρ ds vs
  | .dk kvs => ∃ kvv : List (Key × V), H a = some (.dK kvv) ∧ kvv.map (·.1) = kvs.map (·.1) ∧ RelL K H ρ (kvs.map (·.2)) (kvv.map (·.2))
  | .dt kvs => ∃ kvv : List (List Key × V), H a = some (.dT kvv) ∧ kvv.map (·.1) = kvs.map (·.1) ∧ RelL K H ρ (kvs.map (·.2)) (kvv.map (·.2))
  | .ro ds => ∃ vs, RelL K H ρ ds vs ∧ ((∃ o, H a = some (.frz o (.lst vs))) ∨
      ∃ (o : Obj) (its : Array Value) (n : Nat), K.lookup a = some o ∧ o.cls = .type "list" ∧ o.dict = none ∧ o.data = .seq its n ∧ its.size ≤ sizeLine ∧ Vals vs its.toList)

/-- a def's code object and its table -/
structure CodeT (K : PySem.W.Frag) (c P : Addr) : Prop where
  has : ∃ o vs file tf flags tg inF text tt, K.lookup c = some o ∧ o.cls = .type "code" ∧ o.data = .fields vs ∧ vs[11]? = some (.ref P) ∧ vs[18]? = some (.str file tf) ∧ vs[7]? = some (.int flags tg) ∧ vs[9]? = some (.bool inF) ∧ vs[10]? = some (.int text tt)
/-- a table that may grow -/
structure Tab (K : PySem.W.Frag) (P : Addr) : Prop where
  code : ∃ c, CodeT K c P
  out : K.lookup P = none
structure Ok (K : PySem.W.Frag) (H : Hp) (ρ : List Addr) (S : Store) : Prop where
  len : ρ.length = S.length
  sep : ∀ (n m : Nat) (a : Addr) (ds es : List D), n ≠ m → ρ[n]? = some a → ρ[m]? = some a → S[n]? = some (Cell.lst ds) → S[m]? = some (Cell.lst es) → False
  cell : ∀ (n : Nat) (a : Addr) (c : Cell), ρ[n]? = some a → S[n]? = some c → CellOk K H ρ a c
  tab : ∀ P, Tab K P → ∃ ps, H P = some (.tbl ps)
  sepD : ∀ (n m : Nat) (a : Addr) (c c' : Cell), n ≠ m → ρ[n]? = some a → ρ[m]? = some a → S[n]? = some c → S[m]? = some c' → c.isD = true → c'.isD = true → False

structure Sok (K : PySem.W.Frag) (H : Hp) (ρ : List Addr) (σd : Sg) (σ : St) : Prop where
  len : σd.length = σ.length
  get : ∀ (i : Nat) (d : D), σd[i]? = some (some d) → ∃ v, σ[i]? = some (some v) ∧ Rel K H ρ d v

structure Ex (K : PySem.W.Frag) (H : Hp) (ρ : List Addr) (H' : Hp) (ρ' : List Addr) : Prop where
  tup : ∀ a xs, SqT K H a xs → SqT K H' a xs
  pre : ∀ (n : Nat) a, ρ[n]? = some a → ρ'[n]? = some a

theorem Ex.refl {K H ρ} : Ex K H ρ H ρ := ⟨fun _ _ h => h, fun _ _ h => h⟩
theorem Ex.trans {K H ρ H1 ρ1 H2 ρ2} (a : Ex K H ρ H1 ρ1) (b : Ex K H1 ρ1 H2 ρ2) : Ex K H ρ H2 ρ2 := ⟨fun c xs h => b.tup c xs (a.tup c xs h), fun n c h => b.pre n c (a.pre n c h)⟩

mutual
theorem Rel.mono {K H ρ H' ρ'} (e : Ex K H ρ H' ρ') : ∀ {d v}, Rel K H ρ d v → Rel K H' ρ' d v
  | _, _, .non => .non
  | _, _, .bl b => .bl b
  | _, _, .int i => .int i
  | _, _, .str x => .str x
  | _, _, .tup h l => .tup (e.tup _ _ h) (RelL.mono e l)
  | _, _, .loc h => .loc (e.pre _ _ h)
theorem RelL.mono {K H ρ H' ρ'} (e : Ex K H ρ H' ρ') : ∀ {ds vs}, RelL K H ρ ds vs → RelL K H' ρ' ds vs
  | _, _, .nil => .nil
  | _, _, .cons h l => .cons (Rel.mono e h) (RelL.mono e l)
end
theorem RelL.length {K H ρ} : ∀ {ds vs}, RelL K H ρ ds vs → ds.length = vs.length
  | _, _, .nil => rfl
  | _, _, .cons _ l => by rw [List.length_cons, List.length_cons, RelL.length l]
theorem RelL.get {K H ρ} : ∀ {ds : List D} {vs : List V} {i : Nat} {d : D}, RelL K H ρ ds vs → ds[i]? = some d → ∃ v, vs[i]? = some v ∧ Rel K H ρ d v
  | _, _, _, _, .nil, e => by simp at e
  | _, _, 0, _, .cons r _, e => by simp at e; subst e; exact ⟨_, rfl, r⟩
  | _, _, i + 1, x, .cons _ t, e => by
    obtain ⟨u, h1, h2⟩ := RelL.get (i := i) (d := x) t (by simpa using e)
    exact ⟨u, by simpa using h1, h2⟩
theorem RelL.append {K H ρ} : ∀ {ds es : List D} {vs us : List V}, RelL K H ρ ds vs → RelL K H ρ es us → RelL K H ρ (ds ++ es) (vs ++ us)
  | _, _, _, _, .nil, s => s
  | _, _, _, _, .cons r t, s => .cons r (RelL.append t s)
theorem RelL.take {K H ρ} : ∀ {ds : List D} {vs : List V} (n : Nat), RelL K H ρ ds vs → RelL K H ρ (ds.take n) (vs.take n)
  | _, _, 0, _ => .nil
  | _, _, _ + 1, .nil => .nil
  | _, _, n + 1, .cons r t => .cons r (RelL.take n t)
theorem RelL.drop {K H ρ} : ∀ {ds : List D} {vs : List V} (n : Nat), RelL K H ρ ds vs → RelL K H ρ (ds.drop n) (vs.drop n)
  | _, _, 0, r => r
  | _, _, _ + 1, .nil => .nil
  | _, _, n + 1, .cons _ t => RelL.drop n t
theorem RelL.set {K H ρ} {d : D} {v : V} (r : Rel K H ρ d v) : ∀ {ds : List D} {vs : List V} (i : Nat), RelL K H ρ ds vs → RelL K H ρ (ds.set i d) (vs.set i v)
  | _, _, _, .nil => .nil
  | _, _, 0, .cons _ t => .cons r t
  | _, _, i + 1, .cons q t => .cons q (RelL.set r i t)
theorem RelL.reverse {K H ρ} : ∀ {ds : List D} {vs : List V}, RelL K H ρ ds vs → RelL K H ρ ds.reverse vs.reverse
  | _, _, .nil => .nil
  | _, _, .cons r t => by rw [List.reverse_cons, List.reverse_cons]; exact (RelL.reverse t).append (.cons r .nil)
theorem RelL.ints {K H ρ} : ∀ (ns : List Int), RelL K H ρ (ns.map D.int) (ns.map V.int)
  | [] => .nil
  | n :: ns => .cons (.int n) (RelL.ints ns)
theorem Sok.mono {K H ρ H' ρ' σd σ} (e : Ex K H ρ H' ρ') (s : Sok K H ρ σd σ) : Sok K H' ρ' σd σ :=
  ⟨s.len, fun i d h => let ⟨v, h1, h2⟩ := s.get i d h; ⟨v, h1, h2.mono e⟩⟩
theorem Sok.set {K H ρ σd σ} {d : D} {v : V} (s : Sok K H ρ σd σ) (i : Nat) (r : Rel K H ρ d v) : Sok K H ρ (σd.set i (some d)) (σ.set i (some v)) := by
  refine ⟨by simp [s.len], fun j e h => ?_⟩
  by_cases hj : i = j
  · subst hj
    by_cases hi : i < σd.length
    · rw [List.getElem?_set_self hi] at h
      cases h
      exact ⟨v, by rw [List.getElem?_set_self (by rw [← s.len]; exact hi)], r⟩
    · rw [List.getElem?_eq_none (by simpa using hi)] at h; cases h
  · rw [List.getElem?_set_ne hj] at h
    obtain ⟨u, h1, h2⟩ := s.get j e h
    exact ⟨u, by rw [List.getElem?_set_ne hj]; exact h1, h2⟩

/-! ### the heap's steps -/
theorem sqT_new {K : PySem.W.Frag} {H : Hp} {p : Addr} {o : HO} (hp : H p = none) {a : Addr} {xs : List V} (h : SqT K H a xs) : SqT K (upd H p o) a xs := by
  show upd H p o a = _
  rw [upd_ne (ne_of_none h hp)]; exact h
theorem sqT_wr {K : PySem.W.Frag} {H : Hp} {p : Addr} {o : HO} {ws : List V} (hp : H p = some (.lst ws)) {a : Addr} {xs : List V} (h : SqT K H a xs) : SqT K (upd H p o) a xs := by
  show upd H p o a = _
  rw [upd_ne (ne_of h hp (by intro z; cases z))]; exact h
theorem Ex.new {K H ρ p o} (hp : H p = none) : Ex K H ρ (upd H p o) ρ := ⟨fun _ _ h => sqT_new hp h, fun _ _ h => h⟩
theorem Ex.wr {K H ρ p o ws} (hp : H p = some (.lst ws)) : Ex K H ρ (upd H p o) ρ := ⟨fun _ _ h => sqT_wr hp h, fun _ _ h => h⟩
theorem Ex.more {K H ρ} (xs : List Addr) : Ex K H ρ H (ρ ++ xs) := ⟨fun _ _ h => h, fun n a h => by
  rw [List.getElem?_append_left (List.getElem?_eq_some_iff.mp h).1]; exact h⟩
theorem CellOk.keep {K H ρ H' ρ' a c} (e : Ex K H ρ H' ρ') (k : ∀ o, H a = some o → H' a = some o) (h : CellOk K H ρ a c) : CellOk K H' ρ' a c := by
  cases c with
  | lst ds => obtain ⟨vs, h1, h2⟩ := h; exact ⟨vs, k _ h1, h2.mono e⟩
  | dk kvs => obtain ⟨vs, h1, h0, h2⟩ := h; exact ⟨vs, k _ h1, h0, h2.mono e⟩
  | dt kvs => obtain ⟨vs, h1, h0, h2⟩ := h; exact ⟨vs, k _ h1, h0, h2.mono e⟩
  | ro ds =>
    obtain ⟨vs, h1, h2⟩ := h
    refine ⟨vs, h1.mono e, ?_⟩
    rcases h2 with ⟨o, h2⟩ | h2
    · exact .inl ⟨o, k _ h2⟩
    · exact .inr h2
/-- a new object that the store does not name -/
theorem Ok.new {K H ρ S p o} (h : Ok K H ρ S) (hp : H p = none) : Ok K (upd H p o) ρ S :=
  ⟨h.len, h.sep, fun n a c e1 e2 => (h.cell n a c e1 e2).keep (Ex.new hp) fun o q => (by rw [upd_ne (ne_of_none q hp)]; exact q), fun P t => let ⟨ps, q⟩ := h.tab P t; ⟨ps, by rw [upd_ne (ne_of_none q hp)]; exact q⟩, h.sepD⟩
/-- a new list -/
theorem Ok.newL {K H ρ S p vs ds} (h : Ok K H ρ S) (hp : H p = none) (r : RelL K H ρ ds vs) : Ok K (upd H p (.lst vs)) (ρ ++ [p]) (S ++ [.lst ds]) := by
  have ex : Ex K H ρ (upd H p (.lst vs)) (ρ ++ [p]) := (Ex.new hp).trans (Ex.more [p])
  have old : ∀ n a c, n < S.length → (ρ ++ [p])[n]? = some a → (S ++ [Cell.lst ds])[n]? = some c → ρ[n]? = some a ∧ S[n]? = some c := fun n a c hn e1 e2 => by
    rw [List.getElem?_append_left (by rw [h.len]; exact hn)] at e1
    rw [List.getElem?_append_left hn] at e2
    exact ⟨e1, e2⟩
  have lst : ∀ n a c, ¬ n < S.length → (ρ ++ [p])[n]? = some a → (S ++ [Cell.lst ds])[n]? = some c → n = S.length ∧ a = p ∧ c = .lst ds := fun n a c hn e1 e2 => by
    have hl := (List.getElem?_eq_some_iff.mp e2).1
    rw [List.length_append, List.length_singleton] at hl
    have hn' : n = S.length := by omega
    subst hn'
    rw [List.getElem?_append_right (by rw [h.len]; exact Nat.le_refl _), h.len, Nat.sub_self] at e1
    rw [List.getElem?_append_right (Nat.le_refl _), Nat.sub_self] at e2
    exact ⟨rfl, by simpa using e1.symm, by simpa using e2.symm⟩
  have notp : ∀ n a es, ρ[n]? = some a → S[n]? = some (Cell.lst es) → a ≠ p := fun n a es e1 e2 => by
    obtain ⟨us, q, _⟩ := h.cell n a _ e1 e2
    exact ne_of_none q hp
  refine ⟨by simp [h.len], fun n m a es fs hnm e1 e2 e3 e4 => ?_, fun n a c e1 e2 => ?_, fun P t => let ⟨ps, q⟩ := h.tab P t; ⟨ps, by rw [upd_ne (ne_of_none q hp)]; exact q⟩, fun n m a c c' hnm e1 e2 e3 e4 d1 d2 => ?_⟩
  · by_cases hn : n < S.length
    · obtain ⟨f1, f2⟩ := old n a _ hn e1 e3
      by_cases hm : m < S.length
      · obtain ⟨g1, g2⟩ := old m a _ hm e2 e4
        exact h.sep n m a es fs hnm f1 g1 f2 g2
      · obtain ⟨_, e, _⟩ := lst m a _ hm e2 e4
        exact notp n a _ f1 f2 e
    · obtain ⟨hn', e, _⟩ := lst n a _ hn e1 e3
      by_cases hm : m < S.length
      · obtain ⟨g1, g2⟩ := old m a _ hm e2 e4
        exact notp m a _ g1 g2 e
      · obtain ⟨hm', _, _⟩ := lst m a _ hm e2 e4
        exact hnm (hn'.trans hm'.symm)
  · by_cases hn : n < S.length
    · obtain ⟨f1, f2⟩ := old n a c hn e1 e2
      exact (h.cell n a c f1 f2).keep ex fun o q => by rw [upd_ne (ne_of_none q hp)]; exact q
    · obtain ⟨_, ea, ec⟩ := lst n a c hn e1 e2
      subst ea ec
      exact ⟨vs, upd_same, r.mono ex⟩
  · have lt : ∀ k c, (ρ ++ [p])[k]? = some a → (S ++ [Cell.lst ds])[k]? = some c → c.isD = true → k < S.length := fun k c f1 f2 dd => Classical.byContradiction fun hk => by
      obtain ⟨_, _, ec⟩ := lst k a c hk f1 f2
      subst ec; cases dd
    obtain ⟨f1, f2⟩ := old n a c (lt n c e1 e3 d1) e1 e3
    obtain ⟨g1, g2⟩ := old m a c' (lt m c' e2 e4 d2) e2 e4
    exact h.sepD n m a c c' hnm f1 g1 f2 g2 d1 d2
/-- a list is written -/
theorem Ok.wr {K H ρ S} {a : Addr} {n : Nat} {ws vs : List V} {ds es : List D} (h : Ok K H ρ S) (hn : ρ[n]? = some a) (hs : S[n]? = some (Cell.lst es)) (ha : H a = some (.lst ws)) (r : RelL K H ρ ds vs) : Ok K (upd H a (.lst vs)) ρ (S.set n (.lst ds)) := by
  have ex : Ex K H ρ (upd H a (.lst vs)) ρ := Ex.wr ha
  have hl : n < S.length := (List.getElem?_eq_some_iff.mp hs).1
  refine ⟨by simp [h.len], fun i j b fs gs hij e1 e2 e3 e4 => ?_, fun i b c e1 e2 => ?_, fun P t => let ⟨ps, q⟩ := h.tab P t; ⟨ps, by rw [upd_ne (ne_of q ha (by intro z; cases z))]; exact q⟩, fun i j b c c' hij e1 e2 e3 e4 d1 d2 => ?_⟩
  · have up : ∀ k fs, (S.set n (Cell.lst ds))[k]? = some (Cell.lst fs) → ∃ fs', S[k]? = some (Cell.lst fs') := fun k fs e => by
      by_cases hk : n = k
      · subst hk; exact ⟨es, hs⟩
      · rw [List.getElem?_set_ne hk] at e; exact ⟨fs, e⟩
    obtain ⟨f1, q1⟩ := up i fs e3
    obtain ⟨f2, q2⟩ := up j gs e4
    exact h.sep i j b f1 f2 hij e1 e2 q1 q2
  · by_cases hi : n = i
    · subst hi
      rw [List.getElem?_set_self hl] at e2
      cases e2
      rw [hn] at e1; cases e1
      exact ⟨vs, upd_same, r.mono ex⟩
    · rw [List.getElem?_set_ne hi] at e2
      have q := h.cell i b c e1 e2
      cases c with
      | lst fs =>
        obtain ⟨us, q1, q2⟩ := q
        have hb : b ≠ a := fun z => h.sep n i a es fs hi hn (by rw [e1, z]) hs e2
        exact ⟨us, by rw [upd_ne hb]; exact q1, q2.mono ex⟩
      | ro fs =>
        obtain ⟨us, q1, q2⟩ := q
        refine ⟨us, q1.mono ex, ?_⟩
        rcases q2 with ⟨o, q2⟩ | q2
        · exact .inl ⟨o, by rw [upd_ne (ne_of q2 ha (by intro z; cases z))]; exact q2⟩
        · exact .inr q2
      | dk kvs =>
        obtain ⟨us, q1, q0, q2⟩ := q
        exact ⟨us, by rw [upd_ne (ne_of q1 ha (by intro z; cases z))]; exact q1, q0, q2.mono ex⟩
      | dt kvs =>
        obtain ⟨us, q1, q0, q2⟩ := q
        exact ⟨us, by rw [upd_ne (ne_of q1 ha (by intro z; cases z))]; exact q1, q0, q2.mono ex⟩
  · have up : ∀ (k : Nat) (c : Cell), (S.set n (Cell.lst ds))[k]? = some c → c.isD = true → S[k]? = some c := fun k c e dd => by
      by_cases hk : n = k
      · subst hk
        rw [List.getElem?_set_self hl] at e
        cases e; cases dd
      · rw [List.getElem?_set_ne hk] at e; exact e
    exact h.sepD i j b c c' hij e1 e2 (up i c e3 d1) (up j c' e4 d2) d1 d2
/-- what a place of the store reads as -/
theorem Ok.list {K H ρ S} {n : Nat} {a : Addr} {ds : List D} (h : Ok K H ρ S) (hn : ρ[n]? = some a) (hs : S[n]? = some (Cell.lst ds) ∨ S[n]? = some (Cell.ro ds)) : ∃ vs, SqL K H a vs ∧ RelL K H ρ ds vs := by
  rcases hs with hs | hs
  · obtain ⟨vs, q1, q2⟩ := h.cell n a _ hn hs
    exact ⟨vs, SqL.of q1, q2⟩
  · obtain ⟨vs, q1, q2⟩ := h.cell n a _ hn hs
    refine ⟨vs, ?_, q1⟩
    rcases q2 with ⟨o, q2⟩ | q2
    · exact .inl (.inr ⟨o, q2⟩)
    · exact .inr q2
theorem Ok.own {K H ρ S} {n : Nat} {a : Addr} {ds : List D} (h : Ok K H ρ S) (hn : ρ[n]? = some a) (hs : S[n]? = some (Cell.lst ds)) : ∃ vs, H a = some (.lst vs) ∧ RelL K H ρ ds vs := h.cell n a _ hn hs

/-! ### the judgements over trees -/
def T (K : PySem.W.Frag) (m : Ev) : TE := fun σ H Q => ∃ σd S ρ d S', Sok K H ρ σd σ ∧ Ok K H ρ S ∧ m σd S = some (d, S') ∧ ∀ v H' ρ', Ex K H ρ H' ρ' → Ok K H' ρ' S' → Rel K H' ρ' d v → Q v H'
def TAd (K : PySem.W.Frag) (m : EvA) : TA := fun σ H Q => ∃ σd S ρ ds S', Sok K H ρ σd σ ∧ Ok K H ρ S ∧ m σd S = some (ds, S') ∧ ∀ vs H' ρ', Ex K H ρ H' ρ' → Ok K H' ρ' S' → RelL K H' ρ' ds vs → Q vs H'
def TTd (K : PySem.W.Frag) (m : EvT) : TT := fun σ H Q => ∃ σd S ρ b S', Sok K H ρ σd σ ∧ Ok K H ρ S ∧ m σd S = some (b, S') ∧ ∀ H' ρ', Ex K H ρ H' ρ' → Ok K H' ρ' S' → Q b H'
def FlOk (K : PySem.W.Frag) (H : Hp) (ρ : List Addr) (D : Ends) : Fl → Prop
  | .nx σd S' => ∀ σ' H' ρ', Ex K H ρ H' ρ' → Ok K H' ρ' S' → Sok K H' ρ' σd σ' → D.nx σ' H'
  | .rt d S' => ∀ v H' ρ', Ex K H ρ H' ρ' → Ok K H' ρ' S' → Rel K H' ρ' d v → D.rt v H'
  | .bk σd S' => ∀ σ' H' ρ', Ex K H ρ H' ρ' → Ok K H' ρ' S' → Sok K H' ρ' σd σ' → D.bk σ' H'
  | .ct σd S' => ∀ σ' H' ρ', Ex K H ρ H' ρ' → Ok K H' ρ' S' → Sok K H' ρ' σd σ' → D.ct σ' H'
def TSd (K : PySem.W.Frag) (m : Sv) : TS := fun D σ H => ∃ σd S ρ f, Sok K H ρ σd σ ∧ Ok K H ρ S ∧ m σd S = some f ∧ FlOk K H ρ D f
structure QE (X : Cx) (e : Expr) (m : Ev) : Prop where
  ok : PE X e (T X.K m)
structure QT (X : Cx) (e : Expr) (m : EvT) : Prop where
  ok : PT X e (TTd X.K m)
structure QW (X : Cx) (e : Expr) (m : EvT) : Prop where
  ok : PW X e (TTd X.K m)
structure QA (X : Cx) (es : List Expr) (m : EvA) : Prop where
  ok : PA X es (TAd X.K m)
structure QS (X : Cx) (st : Stmt) (m : Sv) : Prop where
  ok : PS X st (TSd X.K m)
structure QSs (X : Cx) (st : List Stmt) (m : Sv) : Prop where
  ok : PSs X st (TSd X.K m)
theorem PE.imp {X : Cx} {e : Expr} {t t' : TE} (h : PE X e t) (i : ∀ σ H Q, t' σ H Q → t σ H Q) : PE X e t' := fun pins s σ H Q I hw => h pins s σ H Q I (i σ H Q hw)
theorem PT.imp {X : Cx} {e : Expr} {t t' : TT} (h : PT X e t) (i : ∀ σ H Q, t' σ H Q → t σ H Q) : PT X e t' := fun pins s σ H Q I hw => h pins s σ H Q I (i σ H Q hw)
theorem PW.imp {X : Cx} {e : Expr} {t t' : TT} (h : PW X e t) (i : ∀ σ H Q, t' σ H Q → t σ H Q) : PW X e t' := fun wh pins s σ H Q I hw => h wh pins s σ H Q I (i σ H Q hw)
theorem PA.imp {X : Cx} {e : List Expr} {t t' : TA} (h : PA X e t) (i : ∀ σ H Q, t' σ H Q → t σ H Q) : PA X e t' := fun pos pins s σ H Q I hw => h pos pins s σ H Q I (i σ H Q hw)
theorem PS.imp {X : Cx} {e : Stmt} {t t' : TS} (h : PS X e t) (i : ∀ D σ H, t' D σ H → t D σ H) : PS X e t' := fun pins s σ H D I hw => h pins s σ H D I (i D σ H hw)
theorem PSs.imp {X : Cx} {e : List Stmt} {t t' : TS} (h : PSs X e t) (i : ∀ D σ H, t' D σ H → t D σ H) : PSs X e t' := fun pins s σ H D I hw => h pins s σ H D I (i D σ H hw)
theorem PG.imp {X : Cx} {e : Expr} {t t' : TG} (h : PG X e t) (i : ∀ v σ H Q, t' v σ H Q → t v σ H Q) : PG X e t' := fun pins s σ H v u Q I r hw => h pins s σ H v u Q I r (i v σ H Q hw)
end Q2
namespace Q2
open PySem L2
section
variable {X : Cx}
/-! ### names, constants -/
def evVar (i : Nat) : Ev := fun σ S => (σ[i]?.bind id).map fun d => (d, S)
def evC (d : D) : Ev := fun _ S => some (d, S)
theorem evVar_some {i : Nat} {σ : Sg} {S S' : Store} {d : D} (e : evVar i σ S = some (d, S')) : σ[i]? = some (some d) ∧ S' = S := by
  unfold evVar at e
  cases h : σ[i]? with
  | none => rw [h] at e; cases e
  | some o =>
    rw [h] at e
    cases o with
    | none => cases e
    | some c => cases e; exact ⟨rfl, rfl⟩
theorem q_var (i : Nat) {x : Str} {pos : Pos} (hN : X.N[i]? = some x := by rfl) (hv : Vis X.env.scope x := by first | exact Or.inl rfl | exact Or.inr (Or.inl rfl) | exact Or.inr (Or.inr rfl)) (hd : (x == ("__debug__" : Str)) = false := by decide)
    (hcd : (x == ("__classdict__" : Str)) = false := by decide) : QE X (.Name x pos) (evVar i) := ⟨PE.imp (pv i hN hv hd hcd) fun σ H Q h => by
  obtain ⟨σd, S, ρ, d, S', so, ok, e, k⟩ := h
  obtain ⟨e1, rfl⟩ := evVar_some e
  obtain ⟨v, h1, h2⟩ := so.get i d e1
  exact ⟨v, h1, k v H ρ .refl ok h2⟩⟩
theorem t_C {K : PySem.W.Frag} {d : D} {v : V} (r : ∀ H ρ, Rel K H ρ d v) : ∀ (σ : L2.St) (H : Hp) (Q : VK), T K (evC d) σ H Q → tC v σ H Q := fun σ H Q h => by
  obtain ⟨σd, S, ρ, d', S', so, ok, e, k⟩ := h
  cases e
  exact k v H ρ .refl ok (r H ρ)
theorem q_int {i j pos} : QE X (.Constant (.int i) j pos) (evC (.int i)) := ⟨PE.imp pe_int (t_C fun _ _ => .int i)⟩
theorem q_bl {b j pos} : QE X (.Constant (.bool b) j pos) (evC (.bl b)) := ⟨PE.imp pe_bl (t_C fun _ _ => .bl b)⟩
theorem q_non {j pos} : QE X (.Constant .none j pos) (evC .non) := ⟨PE.imp pe_non (t_C fun _ _ => .non)⟩
theorem q_str {x j pos} : QE X (.Constant (.str x) j pos) (evC (.str x)) := ⟨PE.imp pe_str (t_C fun _ _ => .str x)⟩

/-! ### operators -/
abbrev Op2 := D → D → Store → Option (D × Store)
abbrev Op1 := D → Store → Option (D × Store)
def ev2 (o : Op2) (ma mb : Ev) : Ev := fun σ S => (ma σ S).bind fun p => (mb σ p.2).bind fun q => o p.1 q.1 q.2
def ev1 (o : Op1) (ma : Ev) : Ev := fun σ S => (ma σ S).bind fun p => o p.1 p.2
def OpS (K : PySem.W.Frag) (r : R2) (o : Op2) : Prop := ∀ x y v u H ρ S d S' (Q : VK), Rel K H ρ x v → Rel K H ρ y u → Ok K H ρ S → o x y S = some (d, S') →
  (∀ v' H' ρ', Ex K H ρ H' ρ' → Ok K H' ρ' S' → Rel K H' ρ' d v' → Q v' H') → r v u H Q
def UnS (K : PySem.W.Frag) (r : V → Hp → VK → Prop) (o : Op1) : Prop := ∀ x v H ρ S d S' (Q : VK), Rel K H ρ x v → Ok K H ρ S → o x S = some (d, S') →
  (∀ v' H' ρ', Ex K H ρ H' ρ' → Ok K H' ρ' S' → Rel K H' ρ' d v' → Q v' H') → r v H Q
theorem t_op {K : PySem.W.Frag} {r : R2} {o : Op2} {ma mb : Ev} (hs : OpS K r o) : ∀ (σ : L2.St) (H : Hp) (Q : VK), T K (ev2 o ma mb) σ H Q → tOp r (T K ma) (T K mb) σ H Q := fun σ H Q h => by
  obtain ⟨σd, S, ρ, d, S', so, ok, e, k⟩ := h
  obtain ⟨⟨x, S1⟩, e1, e⟩ := Option.bind_eq_some_iff.mp e
  obtain ⟨⟨y, S2⟩, e2, e⟩ := Option.bind_eq_some_iff.mp e
  refine ⟨σd, S, ρ, x, S1, so, ok, e1, fun v H1 ρ1 x1 ok1 r1 => ?_⟩
  refine ⟨σd, S1, ρ1, y, S2, so.mono x1, ok1, e2, fun u H2 ρ2 x2 ok2 r2 => ?_⟩
  exact hs x y v u H2 ρ2 S2 d S' Q (r1.mono x2) r2 ok2 e fun v' H' ρ' x3 ok3 r3 => k v' H' ρ' (x1.trans (x2.trans x3)) ok3 r3
theorem t_un {K : PySem.W.Frag} {r : V → Hp → VK → Prop} {o : Op1} {ma : Ev} (hs : UnS K r o) : ∀ (σ : L2.St) (H : Hp) (Q : VK), T K (ev1 o ma) σ H Q → tUn r (T K ma) σ H Q := fun σ H Q h => by
  obtain ⟨σd, S, ρ, d, S', so, ok, e, k⟩ := h
  obtain ⟨⟨x, S1⟩, e1, e⟩ := Option.bind_eq_some_iff.mp e
  refine ⟨σd, S, ρ, x, S1, so, ok, e1, fun v H1 ρ1 x1 ok1 r1 => ?_⟩
  exact hs x v H1 ρ1 S1 d S' Q r1 ok1 e fun v' H' ρ' x3 ok3 r3 => k v' H' ρ' (x1.trans x3) ok3 r3
variable {a b c : Expr} {ma mb mc : Ev} {pos : Pos}
theorem q_bin {op : Operator} {r : R2} {o : Op2} (hop : OpR X (binaryOp op) r) (hs : OpS X.K r o) (ha : QE X a ma) (hb : QE X b mb) : QE X (.BinOp a op b pos) (ev2 o ma mb) := ⟨PE.imp (pe_op hop ha.ok hb.ok) (t_op hs)⟩
theorem q_cmp {op : CmpOp} {r : R2} {o : Op2} (hop : OpR X (compareOp op) r) (hs : OpS X.K r o) (ha : QE X a ma) (hb : QE X b mb) (hm : behindInMarks op b = false := by first | exact nomark _ | rfl) : QE X (.Compare a [op] [b] pos) (ev2 o ma mb) := ⟨PE.imp (pe_cmpR hop ha.ok hb.ok hm) (t_op hs)⟩
theorem q_un {op : UnaryOp} {r : V → Hp → VK → Prop} {o : Op1} (hop : UnR X (unaryOp op) r) (hs : UnS X.K r o) (ha : QE X a ma) : QE X (.UnaryOp op a pos) (ev1 o ma) := ⟨PE.imp (pe_un hop ha.ok) (t_un hs)⟩
theorem OpR.or' {f : Value → Value → Sem Value} {r r' : R2} (h : OpR X f r) (h' : OpR X f r') : OpR X f (fun x y H Q => r x y H Q ∨ r' x y H Q) := by
  intro pins s σ H x y v u Q I rx ry q
  rcases q with q | q
  · exact h pins s σ H x y v u Q I rx ry q
  · exact h' pins s σ H x y v u Q I rx ry q

/-! ints -/
def o2i (f : Int → Int → D) : Op2 := fun x y S => match x, y with
  | .int i, .int j => some (f i j, S)
  | _, _ => none
theorem s_rI0 {K : PySem.W.Frag} {f : Int → Int → D} {g : Int → Int → V} (hr : ∀ i j H ρ, Rel K H ρ (f i j) (g i j)) : OpS K (rI0 g) (o2i f) := by
  intro x y v u H ρ S d S' Q rx ry ok e k
  cases rx <;> first | (cases ry <;> first | (cases e; exact ⟨_, _, rfl, rfl, k _ H ρ .refl ok (hr _ _ _ _)⟩) | cases e) | cases e
def o2ic (C : Int → Int → Prop) [∀ i j, Decidable (C i j)] (f : Int → Int → D) : Op2 := fun x y S => match x, y with
  | .int i, .int j => if C i j then some (f i j, S) else none
  | _, _ => none
theorem s_rI {K : PySem.W.Frag} {C C' : Int → Int → Prop} [∀ i j, Decidable (C i j)] {f : Int → Int → D} {g : Int → Int → V} (hC : ∀ i j, C i j → C' i j) (hr : ∀ i j H ρ, Rel K H ρ (f i j) (g i j)) : OpS K (rI C' g) (o2ic C f) := by
  intro x y v u H ρ S d S' Q rx ry ok e k
  cases rx with
  | int i =>
    cases ry with
    | int j =>
      by_cases hc : C i j
      · have e' : o2ic C f (.int i) (.int j) S = some (f i j, S) := if_pos hc
        rw [e'] at e; cases e
        exact ⟨_, _, rfl, rfl, hC _ _ hc, k _ H ρ .refl ok (hr _ _ _ _)⟩
      · have e' : o2ic C f (.int i) (.int j) S = none := if_neg hc
        rw [e'] at e; cases e
    | _ => cases e
  | _ => cases e
/-- a product that fits -/
def MulC (i j : Int) : Prop := i.natAbs < 2 ^ 64 ∨ j.natAbs < 2 ^ 64 ∨ (i.natAbs < 2 ^ 20000 ∧ j.natAbs < 2 ^ 20000)
instance (i j : Int) : Decidable (MulC i j) := by unfold MulC; infer_instance
def DivC (_ j : Int) : Prop := j ≠ 0 ∧ j.natAbs < 2 ^ 9000
instance (i j : Int) : Decidable (DivC i j) := by unfold DivC; infer_instance
def NzC (_ j : Int) : Prop := j ≠ 0
instance (i j : Int) : Decidable (NzC i j) := by unfold NzC; infer_instance
def PowC (i j : Int) : Prop := 0 ≤ j ∧ j ≤ 1000000 ∧ i.natAbs < 2 ^ 64
instance (i j : Int) : Decidable (PowC i j) := by unfold PowC; infer_instance
theorem bits_le {i : Int} {n : Nat} (h : i.natAbs < 2 ^ n) : Builtin.Int.intBits i ≤ n := by
  unfold Builtin.Int.intBits
  split
  · exact Nat.zero_le _
  · rename_i h0
    have h1 : i.natAbs ≠ 0 := by intro z; apply h0; simp; omega
    exact (Nat.log2_lt h1).mpr h
theorem MulC.ok {i j : Int} (h : MulC i j) : IntMulOk i j := by
  rcases h with h | h | ⟨h1, h2⟩
  · exact .of_left (bits_le h)
  · exact .of_right (bits_le h)
  · unfold IntMulOk
    have b1 := bits_le h1
    have b2 := bits_le h2
    have hz : Builtin.Int.intTooBig ((Builtin.Int.intBits i : Int) + (Builtin.Int.intBits j : Int)) = false := by
      unfold Builtin.Int.intTooBig
      refine decide_eq_false ?_
      have hb : (bitsLine : Nat) = 134217728 := by decide
      rw [hb]
      omega
    intro hh
    simp only [Bool.and_eq_true] at hh
    rw [hz] at hh
    exact Bool.false_ne_true hh.2
theorem op_mulM : OpR X (binaryOp .Mult) (rI (fun i j => IntMulOk i j) fun i j => .int (i * j)) := by
  intro pins s σ H x y v u Q I rx ry h
  obtain ⟨i, j, rfl, rfl, hc, q⟩ := h
  obtain ⟨t, rfl⟩ := rx
  obtain ⟨t', rfl⟩ := ry
  exact PyProof.Rows.mul_int ⟨.int _, H, I.tok _, ⟨_, rfl⟩, q⟩ hc
theorem log2_small {j : Int} {n : Nat} (h : j.natAbs < 2 ^ n) (hn : 0 < n) : j.natAbs.log2 < n := by
  by_cases h0 : j.natAbs = 0
  · rw [h0]; exact hn
  · exact (Nat.log2_lt h0).mpr h
theorem op_fdivM : OpR X (binaryOp .FloorDiv) (rI (fun i j => j ≠ 0 ∧ j.natAbs.log2 < 9000) fun i j => .int (i.fdiv j)) := by
  intro pins s σ H x y v u Q I rx ry h
  obtain ⟨i, j, rfl, rfl, hc, q⟩ := h
  obtain ⟨t, rfl⟩ := rx
  obtain ⟨t', rfl⟩ := ry
  exact PyProof.Rows.floordiv_int hc.1 ⟨.int _, H, I.tok _, ⟨_, rfl⟩, q⟩ (.inl (PyProof.noPylong_of_log2 hc.2))
def oSub : Op2 := o2i fun i j => .int (i - j)
def oMod : Op2 := o2ic NzC fun i j => .int (i.fmod j)
def oFdiv : Op2 := o2ic DivC fun i j => .int (i.fdiv j)
def oPow : Op2 := o2ic PowC fun i j => .int (i ^ j.toNat)
def oLt : Op2 := o2i fun i j => .bl (decide (i < j))
def oGt : Op2 := o2i fun i j => .bl (decide (j < i))
def oGe : Op2 := o2i fun i j => .bl (decide (j ≤ i))
theorem q_sub (ha : QE X a ma) (hb : QE X b mb) : QE X (.BinOp a .Sub b pos) (ev2 oSub ma mb) := q_bin op_sub (s_rI0 fun _ _ _ _ => .int _) ha hb
theorem q_mod (ha : QE X a ma) (hb : QE X b mb) : QE X (.BinOp a .Mod b pos) (ev2 oMod ma mb) := q_bin op_modN (s_rI (fun _ _ h => h) fun _ _ _ _ => .int _) ha hb
theorem q_fdiv (ha : QE X a ma) (hb : QE X b mb) : QE X (.BinOp a .FloorDiv b pos) (ev2 oFdiv ma mb) := q_bin op_fdivM (s_rI (fun _ _ h => ⟨h.1, log2_small h.2 (by decide)⟩) fun _ _ _ _ => .int _) ha hb
theorem q_pow (ha : QE X a ma) (hb : QE X b mb) : QE X (.BinOp a .Pow b pos) (ev2 oPow ma mb) := q_bin op_pow (s_rI (fun _ _ h => h) fun _ _ _ _ => .int _) ha hb
def oNeg : Op1 := fun x S => match x with
  | .int i => some (.int (-i), S)
  | _ => none
theorem s_neg {K : PySem.W.Frag} : UnS K (rU fun i => .int (-i)) oNeg := by
  intro x v H ρ S d S' Q rx ok e k
  cases rx <;> first | (cases e; exact ⟨_, rfl, k _ H ρ .refl ok (.int _)⟩) | cases e
theorem q_neg (ha : QE X a ma) : QE X (.UnaryOp .USub a pos) (ev1 oNeg ma) := q_un un_neg s_neg ha

/-! products: ints, a list times a number -/
def oMul : Op2 := fun x y S => match x, y with
  | .int i, .int j => if MulC i j then some (.int (i * j), S) else none
  | .loc n, .int j => (match S[n]? with
    | some (Cell.lst ds) => if j < 2 ^ 62 ∧ -(2 ^ 62) ≤ j ∧ ds.length * j.toNat ≤ 100000 then some (.loc S.length, S ++ [.lst (List.replicate j.toNat ds).flatten]) else none
    | _ => none)
  | _, _ => none
theorem RelL.rep {K H ρ} {ds : List D} {vs : List V} (r : RelL K H ρ ds vs) : ∀ n : Nat, RelL K H ρ (List.replicate n ds).flatten (List.replicate n vs).flatten
  | 0 => .nil
  | n + 1 => by rw [List.replicate_succ, List.replicate_succ, List.flatten_cons, List.flatten_cons]; exact r.append (RelL.rep r n)
theorem Ok.lastL {K H ρ S p vs ds} (h : Ok K H ρ S) (hp : H p = none) (r : RelL K H ρ ds vs) : Ex K H ρ (upd H p (.lst vs)) (ρ ++ [p]) ∧ Ok K (upd H p (.lst vs)) (ρ ++ [p]) (S ++ [.lst ds]) ∧ Rel K (upd H p (.lst vs)) (ρ ++ [p]) (.loc S.length) (.ref p) :=
  ⟨(Ex.new hp).trans (Ex.more [p]), h.newL hp r, .loc (by rw [List.getElem?_append_right (by rw [h.len]; exact Nat.le_refl _), h.len, Nat.sub_self]; rfl)⟩
theorem s_mul {K : PySem.W.Frag} : OpS K (fun x y H Q => rI (fun i j => IntMulOk i j) (fun i j => .int (i * j)) x y H Q ∨ rRep x y H Q) oMul := by
  intro x y v u H ρ S d S' Q rx ry ok e k
  cases rx with
  | int i =>
    cases ry with
    | int j =>
      refine .inl ⟨i, j, rfl, rfl, ?_⟩
      by_cases hc : MulC i j
      · have e' : oMul (.int i) (.int j) S = some (.int (i * j), S) := if_pos hc
        rw [e'] at e; cases e
        exact ⟨hc.ok, k _ H ρ .refl ok (.int _)⟩
      · have e' : oMul (.int i) (.int j) S = none := if_neg hc
        rw [e'] at e; cases e
    | _ => cases e
  | @loc n l hn =>
    cases ry with
    | int j =>
      refine .inr ?_
      have e0 : oMul (.loc n) (.int j) S = (match S[n]? with
        | some (Cell.lst ds) => if j < 2 ^ 62 ∧ -(2 ^ 62) ≤ j ∧ ds.length * j.toNat ≤ 100000 then some (.loc S.length, S ++ [.lst (List.replicate j.toNat ds).flatten]) else none
        | _ => none) := rfl
      rw [e0] at e
      cases hs : S[n]? with
      | none => rw [hs] at e; cases e
      | some c =>
        rw [hs] at e
        cases c with
        | ro ds => cases e
        | dk _ => cases e
        | dt _ => cases e
        | lst ds =>
          by_cases hc : j < 2 ^ 62 ∧ -(2 ^ 62) ≤ j ∧ ds.length * j.toNat ≤ 100000
          · have e1 := (if_pos hc).symm.trans e
            cases e1
            obtain ⟨vs, ha, rl⟩ := ok.own hn hs
            refine ⟨l, j, vs, rfl, rfl, ha, by omega, by omega, ?_, fun p hp => ?_⟩
            · rw [← rl.length]
              exact Nat.le_trans hc.2.2 (by decide)
            · obtain ⟨x1, x2, x3⟩ := ok.lastL hp (rl.rep j.toNat)
              exact k _ _ _ x1 x2 x3
          · have e1 := (if_neg hc).symm.trans e
            cases e1
    | _ => cases e
  | _ => cases e
theorem q_mul (ha : QE X a ma) (hb : QE X b mb) : QE X (.BinOp a .Mult b pos) (ev2 oMul ma mb) := q_bin (OpR.or' op_mulM op_rep) s_mul ha hb

/-! sums: ints, texts, lists, tuples -/
def oAdd : Op2 := fun x y S => match x, y with
  | .int i, .int j => some (.int (i + j), S)
  | .str i, .str j => if i.length + j.length ≤ 1000000 then some (.str (i ++ j), S) else none
  | .loc n, .loc m => (match S[n]?, S[m]? with
    | some (Cell.lst ds), some (Cell.lst es) => if ds.length + es.length ≤ 100000 then some (.loc S.length, S ++ [.lst (ds ++ es)]) else none
    | _, _ => none)
  | .tup (d :: ds), .tup es => if ds.length + es.length ≤ 100000 then some (.tup (d :: ds ++ es), S) else none
  | _, _ => none
theorem s_add {K : PySem.W.Frag} : OpS K (fun x y H Q => (rI0 (fun i j => .int (i + j)) x y H Q ∨ ∃ i j, x = .str i ∧ y = .str j ∧ i.length + j.length ≤ sizeLine ∧ Q (.str (i ++ j)) H) ∨ (rCat x y H Q ∨ rCatT K x y H Q)) oAdd := by
  intro x y v u H ρ S d S' Q rx ry ok e k
  cases rx with
  | int i =>
    cases ry with
    | int j => cases e; exact .inl (.inl ⟨i, j, rfl, rfl, k _ H ρ .refl ok (.int _)⟩)
    | _ => cases e
  | str i =>
    cases ry with
    | str j =>
      by_cases hc : i.length + j.length ≤ 1000000
      · have e' : oAdd (.str i) (.str j) S = some (.str (i ++ j), S) := if_pos hc
        rw [e'] at e; cases e
        exact .inl (.inr ⟨i, j, rfl, rfl, Nat.le_trans hc (by decide), k _ H ρ .refl ok (.str _)⟩)
      · have e' : oAdd (.str i) (.str j) S = none := if_neg hc
        rw [e'] at e; cases e
    | _ => cases e
  | @loc n l hn =>
    cases ry with
    | @loc m l2 hm =>
      refine .inr (.inl ?_)
      have e0 : oAdd (.loc n) (.loc m) S = (match S[n]?, S[m]? with
        | some (Cell.lst ds), some (Cell.lst es) => if ds.length + es.length ≤ 100000 then some (.loc S.length, S ++ [.lst (ds ++ es)]) else none
        | _, _ => none) := rfl
      rw [e0] at e
      cases hs : S[n]? with
      | none => rw [hs] at e; cases e
      | some c =>
        cases ht : S[m]? with
        | none => rw [hs, ht] at e; cases c <;> cases e
        | some c2 =>
          rw [hs, ht] at e
          cases c with
          | ro ds => cases e
          | dk _ => cases e
          | dt _ => cases e
          | lst ds =>
            cases c2 with
            | ro ds => cases e
            | dk _ => cases e
            | dt _ => cases e
            | lst es =>
              by_cases hc : ds.length + es.length ≤ 100000
              · have e1 := (if_pos hc).symm.trans e
                cases e1
                obtain ⟨vs, ha, rl⟩ := ok.own hn hs
                obtain ⟨ws, hb, rl2⟩ := ok.own hm ht
                refine ⟨l, l2, vs, ws, rfl, rfl, ha, hb, by rw [← rl.length, ← rl2.length]; exact Nat.le_trans hc (by decide), fun p hp => ?_⟩
                obtain ⟨x1, x2, x3⟩ := ok.lastL hp (rl.append rl2)
                exact k _ _ _ x1 x2 x3
              · have e1 := (if_neg hc).symm.trans e
                cases e1
    | _ => cases e
  | @tup p1 ds vs hq rl =>
    cases ry with
    | @tup p2 es us hq2 rl2 =>
      cases ds with
      | nil => cases e
      | cons d0 ds =>
        by_cases hc : ds.length + es.length ≤ 100000
        · have e' : oAdd (.tup (d0 :: ds)) (.tup es) S = some (.tup (d0 :: ds ++ es), S) := if_pos hc
          rw [e'] at e; cases e
          have hl := rl.length
          have hl2 := rl2.length
          rw [List.length_cons] at hl
          refine .inr (.inr ⟨p1, p2, vs, us, rfl, rfl, hq.any, hq2.any, by intro z; rw [z] at hl; simp at hl, ?_, fun z => ?_, fun _ p hp => ?_⟩)
          · have : vs.length + us.length ≤ 100001 := by omega
            exact Nat.le_trans this (by decide)
          · have e0 : es = [] := by rw [z] at hl2; exact List.length_eq_zero_iff.mp hl2
            subst e0
            rw [List.append_nil] at k
            exact k _ H ρ .refl ok (.tup hq rl)
          · exact k _ _ ρ (Ex.new hp) (ok.new hp) (.tup (SqT.of upd_same) ((rl.append rl2).mono (Ex.new hp)))
        · have e' : oAdd (.tup (d0 :: ds)) (.tup es) S = none := if_neg hc
          rw [e'] at e; cases e
    | _ => first | cases e | (cases ds <;> cases e)
  | _ => cases e
theorem q_add (ha : QE X a ma) (hb : QE X b mb) : QE X (.BinOp a .Add b pos) (ev2 oAdd ma mb) := q_bin (OpR.or' (OpR.or' op_add op_add_str) (OpR.or' op_cat op_catT)) s_add ha hb
end
end Q2
namespace Q2
open PySem L2
section
variable {X : Cx} {a b c : Expr} {ma mb mc : Ev} {pos : Pos}
/-! ### data as the library's own -/
def mapO {α β : Type} (f : α → Option β) : List α → Option (List β)
  | [] => some []
  | a :: r => (f a).bind fun b => (mapO f r).map (b :: ·)
def toP (S : Store) : Nat → D → Option PyData
  | 0, _ => none
  | _ + 1, .non => some .none
  | _ + 1, .bl b => some (.bool b)
  | _ + 1, .int i => some (.int i)
  | _ + 1, .str x => some (.str x)
  | n + 1, .tup ds => (mapO (toP S n) ds).map .tuple
  | n + 1, .loc k => match S[k]? with
    | some (Cell.lst ds) => (mapO (toP S n) ds).map .list
    | some (Cell.ro ds) => (mapO (toP S n) ds).map .list
    | _ => none
theorem mapO_dp {K H ρ} {f : D → Option PyData} (hf : ∀ d p v, f d = some p → Rel K H ρ d v → Dp K H v p) : ∀ {ds : List D} {ps : List PyData} {vs : List V}, mapO f ds = some ps → RelL K H ρ ds vs → DpAll K H vs ps
  | [], _, _, e, r => by cases e; cases r; exact .nil
  | d :: ds, _, _, e, r => by
    cases r with
    | cons r1 r2 =>
      obtain ⟨p, e1, e⟩ := Option.bind_eq_some_iff.mp e
      obtain ⟨ps, e2, e⟩ := Option.map_eq_some_iff.mp e
      subst e
      exact .cons (hf _ _ _ e1 r1) (mapO_dp hf e2 r2)
theorem toP_dp {K H ρ S} (ok : Ok K H ρ S) : ∀ (n : Nat) {d : D} {p : PyData} {v : V}, toP S n d = some p → Rel K H ρ d v → Dp K H v p
  | 0, _, _, _, e, _ => by cases e
  | n + 1, d, p, v, e, r => by
    cases r with
    | non => cases e; exact .non
    | bl b => cases e; exact .bl b
    | int i => cases e; exact .int i
    | str x => cases e; exact .str x
    | tup h rl =>
      obtain ⟨ps, e1, e⟩ := Option.map_eq_some_iff.mp e
      subst e
      exact .tup h.any (mapO_dp (fun d p v => toP_dp ok n) e1 rl)
    | @loc k a hk =>
      have e0 : (match S[k]? with
        | some (Cell.lst ds) => (mapO (toP S n) ds).map .list
        | some (Cell.ro ds) => (mapO (toP S n) ds).map .list
        | _ => none) = some p := e
      cases hs : S[k]? with
      | none => rw [hs] at e0; cases e0
      | some c =>
        rw [hs] at e0
        cases c with
        | lst ds =>
          obtain ⟨ps, e1, e⟩ := Option.map_eq_some_iff.mp e0
          subst e
          obtain ⟨vs, h1, h2⟩ := ok.list hk (.inl hs)
          exact .lst h1 (mapO_dp (fun d p v => toP_dp ok n) e1 h2)
        | ro ds =>
          obtain ⟨ps, e1, e⟩ := Option.map_eq_some_iff.mp e0
          subst e
          obtain ⟨vs, h1, h2⟩ := ok.list hk (.inr hs)
          exact .lst h1 (mapO_dp (fun d p v => toP_dp ok n) e1 h2)
        | dk _ => cases e0
        | dt _ => cases e0

/-! ### == and != -/
def eqD (x y : D) (S : Store) : Option Bool := match x, y with
  | .int i, .int j => some (decide (i = j))
  | .str i, .str j => some (decide (i = j))
  | .bl i, .bl j => some (decide (i = j))
  | x, y => (toP S 8 x).bind fun p => (toP S 8 y).bind fun q => if SeqAt.shaped p = true ∧ SeqAt.shaped q = true then some (PyData.eqv p q) else none
def oEq : Op2 := fun x y S => (eqD x y S).map fun b => (.bl b, S)
def oNe : Op2 := fun x y S => (eqD x y S).map fun b => (.bl (!b), S)
theorem eqD_ok {K H ρ S x y v u b} (ok : Ok K H ρ S) (rx : Rel K H ρ x v) (ry : Rel K H ρ y u) (e : eqD x y S = some b) :
    (scal v u = true ∧ b = decide (v = u)) ∨ ∃ p q, Dp K H v p ∧ Dp K H u q ∧ SeqAt.shaped p = true ∧ SeqAt.shaped q = true ∧ b = PyData.eqv p q := by
  have big : (toP S 8 x).bind (fun p => (toP S 8 y).bind fun q => if SeqAt.shaped p = true ∧ SeqAt.shaped q = true then some (PyData.eqv p q) else none) = some b → ∃ p q, Dp K H v p ∧ Dp K H u q ∧ SeqAt.shaped p = true ∧ SeqAt.shaped q = true ∧ b = PyData.eqv p q := fun e => by
    obtain ⟨p, e1, e⟩ := Option.bind_eq_some_iff.mp e
    obtain ⟨q, e2, e⟩ := Option.bind_eq_some_iff.mp e
    by_cases hc : SeqAt.shaped p = true ∧ SeqAt.shaped q = true
    · rw [if_pos hc] at e
      cases e
      exact ⟨p, q, toP_dp ok 8 e1 rx, toP_dp ok 8 e2 ry, hc.1, hc.2, rfl⟩
    · rw [if_neg hc] at e; cases e
  cases rx with
  | int i =>
    cases ry with
    | int j => cases e; refine .inl ⟨rfl, ?_⟩; rw [dec_int]; exact (Bool.beq_eq_decide_eq i j).symm
    | _ => exact .inr (big e)
  | str i =>
    cases ry with
    | str j =>
      cases e
      refine .inl ⟨rfl, ?_⟩
      by_cases h : i = j
      · subst h; simp
      · rw [decide_eq_false h, decide_eq_false (fun z => h (V.str.inj z))]
    | _ => exact .inr (big e)
  | bl i =>
    cases ry with
    | bl j =>
      cases e
      refine .inl ⟨rfl, ?_⟩
      by_cases h : i = j
      · subst h; simp
      · rw [decide_eq_false h, decide_eq_false (fun z => h (V.bl.inj z))]
    | _ => exact .inr (big e)
  | _ => exact .inr (big e)
theorem s_eq {K : PySem.W.Frag} : OpS K (fun x y H Q => rEq x y H Q ∨ rEqD K x y H Q) oEq := by
  intro x y v u H ρ S d S' Q rx ry ok e k
  obtain ⟨bb, e1, e⟩ := Option.map_eq_some_iff.mp e
  cases e
  rcases eqD_ok ok rx ry e1 with ⟨h1, h2⟩ | ⟨p, q, h1, h2, h3, h4, h5⟩
  · exact .inl ⟨h1, by rw [← h2]; exact k _ H ρ .refl ok (.bl _)⟩
  · exact .inr ⟨p, q, h1, h2, h3, h4, by rw [← h5]; exact k _ H ρ .refl ok (.bl _)⟩
theorem s_ne {K : PySem.W.Frag} : OpS K (fun x y H Q => rNe x y H Q ∨ rNeD K x y H Q) oNe := by
  intro x y v u H ρ S d S' Q rx ry ok e k
  obtain ⟨bb, e1, e⟩ := Option.map_eq_some_iff.mp e
  cases e
  rcases eqD_ok ok rx ry e1 with ⟨h1, h2⟩ | ⟨p, q, h1, h2, h3, h4, h5⟩
  · exact .inl ⟨h1, by rw [← h2]; exact k _ H ρ .refl ok (.bl _)⟩
  · exact .inr ⟨p, q, h1, h2, h3, h4, by rw [← h5]; exact k _ H ρ .refl ok (.bl _)⟩
/-! ### tests -/
def truth (d : D) (S : Store) : Option Bool := match d with
  | .non => some false
  | .bl b => some b
  | .int i => some (i != 0)
  | .str y => if y.length ≤ 1000000 then some ((y.length : Int) != 0) else none
  | .tup ds => some (!ds.isEmpty)
  | .loc n => match S[n]? with
    | some (Cell.lst ds) => some (!ds.isEmpty)
    | some (Cell.ro ds) => some (!ds.isEmpty)
    | _ => none
def evTru (m : Ev) : EvT := fun σ S => (m σ S).bind fun p => (truth p.1 p.2).map fun b => (b, p.2)
theorem RelL.isEmpty {K H ρ} {ds : List D} {vs : List V} (r : RelL K H ρ ds vs) : ds.isEmpty = vs.isEmpty := by cases r <;> rfl
theorem truth_ok {K H ρ S x v b} (ok : Ok K H ρ S) (rx : Rel K H ρ x v) (e : truth x S = some b) : TruV K v H b := by
  cases rx with
  | non => cases e; rfl
  | bl i => cases e; rfl
  | int i => cases e; rfl
  | str y =>
    by_cases hc : y.length ≤ 1000000
    · have e' : truth (.str y) S = some ((y.length : Int) != 0) := if_pos hc
      rw [e'] at e; cases e
      exact ⟨Nat.le_trans hc (by decide), rfl⟩
    · have e' : truth (.str y) S = none := if_neg hc
      rw [e'] at e; cases e
  | tup h rl => cases e; exact .inr (.inl ⟨_, h.any, by rw [rl.isEmpty]⟩)
  | @loc n a hn =>
    have e0 : (match S[n]? with
      | some (Cell.lst ds) => some (!ds.isEmpty)
      | some (Cell.ro ds) => some (!ds.isEmpty)
      | _ => none) = some b := e
    cases hs : S[n]? with
    | none => rw [hs] at e0; cases e0
    | some c =>
      rw [hs] at e0
      cases c with
      | lst ds =>
        cases e0
        obtain ⟨vs, h1, h2⟩ := ok.list hn (.inl hs)
        exact .inl ⟨vs, h1, by rw [h2.isEmpty]⟩
      | ro ds =>
        cases e0
        obtain ⟨vs, h1, h2⟩ := ok.list hn (.inr hs)
        exact .inl ⟨vs, h1, by rw [h2.isEmpty]⟩
      | dk _ => cases e0
      | dt _ => cases e0
theorem q_ttru (ha : QE X a ma) (he : ∀ whole, isTrue a X.env whole = (do let v ← whole; standAt a.pos; holding [v] (truthy v)) := by intro _; rfl) : QT X a (evTru ma) := ⟨PT.imp (pt_truth ha.ok he) fun σ H Q h => by
  obtain ⟨σd, S, ρ, d, S', so, ok, e, k⟩ := h
  obtain ⟨⟨x, S1⟩, e1, e⟩ := Option.bind_eq_some_iff.mp e
  obtain ⟨bb, e2, e⟩ := Option.map_eq_some_iff.mp e
  cases e
  exact ⟨σd, S, ρ, x, S1, so, ok, e1, fun v H1 ρ1 x1 ok1 r1 => ⟨_, truth_ok ok1 r1 e2, k H1 ρ1 x1 ok1⟩⟩⟩
def evB (m : Ev) : EvT := fun σ S => (m σ S).bind fun p => match p.1 with
  | .bl b => some (b, p.2)
  | _ => none
theorem t_test {K : PySem.W.Frag} {r : R2} {o : Op2} {ma mb : Ev} (hs : OpS K r o) : ∀ (σ : L2.St) (H : Hp) (Q : Bool → Hp → Prop), TTd K (evB (ev2 o ma mb)) σ H Q → tTest (tOp r (T K ma) (T K mb)) σ H Q := fun σ H Q h => by
  obtain ⟨σd, S, ρ, b, S', so, ok, e, k⟩ := h
  obtain ⟨⟨x, S1⟩, e1, e⟩ := Option.bind_eq_some_iff.mp e
  refine t_op hs σ H _ ⟨σd, S, ρ, x, S1, so, ok, e1, fun v H1 ρ1 x1 ok1 r1 => ?_⟩
  cases r1 with
  | bl bb => cases e; exact ⟨_, rfl, k H1 ρ1 x1 ok1⟩
  | _ => cases e
theorem q_tcmp {op : CmpOp} {r : R2} {o : Op2} (hop : OpR X (compareOp op) r) (hs : OpS X.K r o) (ha : QE X a ma) (hb : QE X b mb) (hm : behindInMarks op b = false := by first | exact nomark _ | rfl) : QT X (.Compare a [op] [b] pos) (evB (ev2 o ma mb)) := ⟨PT.imp (pt_cmpR hop ha.ok hb.ok hm) (t_test hs)⟩
theorem q_tlt (ha : QE X a ma) (hb : QE X b mb) : QT X (.Compare a [.Lt] [b] pos) (evB (ev2 oLt ma mb)) := q_tcmp op_lt (s_rI0 fun _ _ _ _ => .bl _) ha hb
theorem q_tgt (ha : QE X a ma) (hb : QE X b mb) : QT X (.Compare a [.Gt] [b] pos) (evB (ev2 oGt ma mb)) := q_tcmp op_gt (s_rI0 fun _ _ _ _ => .bl _) ha hb
theorem q_tge (ha : QE X a ma) (hb : QE X b mb) : QT X (.Compare a [.GtE] [b] pos) (evB (ev2 oGe ma mb)) := q_tcmp op_ge (s_rI0 fun _ _ _ _ => .bl _) ha hb
theorem q_teq {k : Nat} (hr : Room k X.A) (ha : QE X a ma) (hb : QE X b mb) : QT X (.Compare a [.Eq] [b] pos) (evB (ev2 oEq ma mb)) := q_tcmp (OpR.or' op_eq (op_eqD hr.units)) s_eq ha hb
theorem q_tne {k : Nat} (hr : Room k X.A) (ha : QE X a ma) (hb : QE X b mb) : QT X (.Compare a [.NotEq] [b] pos) (evB (ev2 oNe ma mb)) := q_tcmp (OpR.or' op_ne (op_neD hr.units)) s_ne ha hb
def evAnd (ta tb : EvT) : EvT := fun σ S => (ta σ S).bind fun p => if p.1 = true then tb σ p.2 else some (false, p.2)
def evOr (ta tb : EvT) : EvT := fun σ S => (ta σ S).bind fun p => if p.1 = true then some (true, p.2) else tb σ p.2
def evNot (ta : EvT) : EvT := fun σ S => (ta σ S).map fun p => (!p.1, p.2)
variable {ta tb : EvT} {rest : List Expr}
theorem QW.qt {e : Expr} {t : EvT} (h : QW X e t) : QT X e t := ⟨h.ok.pt⟩
theorem q_and1 (ha : QT X a ta) : QW X (.BoolOp .And [a] pos) ta := ⟨pw_and1 ha.ok⟩
theorem q_or1 (ha : QT X a ta) : QW X (.BoolOp .Or [a] pos) ta := ⟨pw_or1 ha.ok⟩
theorem q_and (ha : QT X a ta) (hb : QW X (.BoolOp .And (b :: rest) pos) tb) : QW X (.BoolOp .And (a :: b :: rest) pos) (evAnd ta tb) := ⟨PW.imp (pw_and ha.ok hb.ok) fun σ H Q h => by
  obtain ⟨σd, S, ρ, d, S', so, ok, e, k⟩ := h
  obtain ⟨⟨x, S1⟩, e1, e⟩ := Option.bind_eq_some_iff.mp e
  refine ⟨σd, S, ρ, x, S1, so, ok, e1, fun H1 ρ1 x1 ok1 => ?_⟩
  cases x with
  | true => exact ⟨σd, S1, ρ1, d, S', so.mono x1, ok1, e, fun H2 ρ2 x2 ok2 => k H2 ρ2 (x1.trans x2) ok2⟩
  | false => cases e; exact k H1 ρ1 x1 ok1⟩
theorem q_or (ha : QT X a ta) (hb : QW X (.BoolOp .Or (b :: rest) pos) tb) : QW X (.BoolOp .Or (a :: b :: rest) pos) (evOr ta tb) := ⟨PW.imp (pw_or ha.ok hb.ok) fun σ H Q h => by
  obtain ⟨σd, S, ρ, d, S', so, ok, e, k⟩ := h
  obtain ⟨⟨x, S1⟩, e1, e⟩ := Option.bind_eq_some_iff.mp e
  refine ⟨σd, S, ρ, x, S1, so, ok, e1, fun H1 ρ1 x1 ok1 => ?_⟩
  cases x with
  | false => exact ⟨σd, S1, ρ1, d, S', so.mono x1, ok1, e, fun H2 ρ2 x2 ok2 => k H2 ρ2 (x1.trans x2) ok2⟩
  | true => cases e; exact k H1 ρ1 x1 ok1⟩
theorem q_tnot (ha : QT X a ta) : QT X (.UnaryOp .Not a pos) (evNot ta) := ⟨PT.imp (pt_not ha.ok) fun σ H Q h => by
  obtain ⟨σd, S, ρ, d, S', so, ok, e, k⟩ := h
  obtain ⟨⟨x, S1⟩, e1, e⟩ := Option.map_eq_some_iff.mp e
  cases e
  exact ⟨σd, S, ρ, x, S1, so, ok, e1, fun H1 ρ1 x1 ok1 => k H1 ρ1 x1 ok1⟩⟩
/-- as values, all but the last truths -/
def evAndV (ma mb : Ev) : Ev := fun σ S => (ma σ S).bind fun p => match p.1 with
  | .bl true => mb σ p.2
  | .bl false => some (.bl false, p.2)
  | _ => none
def evIf (t : EvT) (ma mb : Ev) : Ev := fun σ S => (t σ S).bind fun p => if p.1 = true then ma σ p.2 else mb σ p.2
theorem q_if (hc : QT X c ta) (ha : QE X a ma) (hb : QE X b mb) : QE X (.IfExp c a b pos) (evIf ta ma mb) := ⟨PE.imp (pe_ifExp hc.ok ha.ok hb.ok) fun σ H Q h => by
  obtain ⟨σd, S, ρ, d, S', so, ok, e, k⟩ := h
  obtain ⟨⟨x, S1⟩, e1, e⟩ := Option.bind_eq_some_iff.mp e
  refine ⟨σd, S, ρ, x, S1, so, ok, e1, fun H1 ρ1 x1 ok1 => ?_⟩
  cases x with
  | true => exact ⟨σd, S1, ρ1, d, S', so.mono x1, ok1, e, fun v H2 ρ2 x2 ok2 r2 => k v H2 ρ2 (x1.trans x2) ok2 r2⟩
  | false => exact ⟨σd, S1, ρ1, d, S', so.mono x1, ok1, e, fun v H2 ρ2 x2 ok2 r2 => k v H2 ρ2 (x1.trans x2) ok2 r2⟩⟩

/-! ### argument lists, displays -/
def eaNil : EvA := fun _ S => some ([], S)
def eaCons (m : Ev) (r : EvA) : EvA := fun σ S => (m σ S).bind fun p => (r σ p.2).map fun q => (p.1 :: q.1, q.2)
variable {e : Expr} {es : List Expr} {m : Ev} {mr : EvA}
theorem q_nil : QA X [] eaNil := ⟨PA.imp pa_nil fun σ H Q h => by
  obtain ⟨σd, S, ρ, d, S', so, ok, e, k⟩ := h
  cases e
  exact k [] H ρ .refl ok .nil⟩
theorem q_cons (ha : QE X e m) (hr : QA X es mr) (hs : starEach (e :: es) X.env = (false, eval e X.env) :: starEach es X.env := by rfl) : QA X (e :: es) (eaCons m mr) := ⟨PA.imp (pa_cons ha.ok hr.ok hs) fun σ H Q h => by
  obtain ⟨σd, S, ρ, d, S', so, ok, e, k⟩ := h
  obtain ⟨⟨x, S1⟩, e1, e⟩ := Option.bind_eq_some_iff.mp e
  obtain ⟨⟨xs, S2⟩, e2, e⟩ := Option.map_eq_some_iff.mp e
  cases e
  exact ⟨σd, S, ρ, x, S1, so, ok, e1, fun v H1 ρ1 x1 ok1 r1 => ⟨σd, S1, ρ1, xs, S2, so.mono x1, ok1, e2, fun vs H2 ρ2 x2 ok2 r2 => k _ H2 ρ2 (x1.trans x2) ok2 (.cons (r1.mono x2) r2)⟩⟩⟩
def evTup (mr : EvA) : Ev := fun σ S => (mr σ S).bind fun p => if p.1.length ≤ 1000 then some (.tup p.1, p.2) else none
def evLst (mr : EvA) : Ev := fun σ S => (mr σ S).bind fun p => if p.1.length ≤ 1000 then some (.loc p.2.length, p.2 ++ [.lst p.1]) else none
theorem q_tup {x1} (h : QA X es mr) : QE X (.Tuple es x1 pos) (evTup mr) := ⟨PE.imp (pe_tup h.ok) fun σ H Q h => by
  obtain ⟨σd, S, ρ, d, S', so, ok, e, k⟩ := h
  obtain ⟨⟨xs, S1⟩, e1, e⟩ := Option.bind_eq_some_iff.mp e
  refine ⟨σd, S, ρ, xs, S1, so, ok, e1, fun vs H1 ρ1 x1 ok1 r1 => ?_⟩
  by_cases hc : xs.length ≤ 1000
  · have e' := (if_pos hc).symm.trans e
    cases e'
    refine ⟨by rw [← r1.length]; exact Nat.le_trans hc (by decide), fun p hp => ?_⟩
    exact k _ _ ρ1 (x1.trans (Ex.new hp)) (ok1.new hp) (.tup (SqT.of upd_same) (r1.mono (Ex.new hp)))
  · have e' := (if_neg hc).symm.trans e
    cases e'⟩
theorem q_lst (h : QA X es mr) : QE X (.List es pos) (evLst mr) := ⟨PE.imp (pe_lst h.ok) fun σ H Q h => by
  obtain ⟨σd, S, ρ, d, S', so, ok, e, k⟩ := h
  obtain ⟨⟨xs, S1⟩, e1, e⟩ := Option.bind_eq_some_iff.mp e
  refine ⟨σd, S, ρ, xs, S1, so, ok, e1, fun vs H1 ρ1 x1 ok1 r1 => ?_⟩
  by_cases hc : xs.length ≤ 1000
  · have e' := (if_pos hc).symm.trans e
    cases e'
    refine ⟨by rw [← r1.length]; exact Nat.le_trans hc (by decide), fun p hp => ?_⟩
    obtain ⟨z1, z2, z3⟩ := ok1.lastL hp r1
    exact k _ _ _ (x1.trans z1) z2 z3
  · have e' := (if_neg hc).symm.trans e
    cases e'⟩

/-! ### items -/
theorem RelL.atI {K H ρ} {ds : List D} {vs : List V} {i : Int} {d : D} (r : RelL K H ρ ds vs) (e : L2.atI ds i = some d) : ∃ v, L2.atI vs i = some v ∧ Rel K H ρ d v := by
  unfold L2.atI at e ⊢
  rw [← r.length]
  obtain ⟨j, e1, e2⟩ := Option.bind_eq_some_iff.mp e
  obtain ⟨v, h1, h2⟩ := r.get e2
  exact ⟨v, by rw [e1]; exact h1, h2⟩
def oIx : Op2 := fun x y S => match x, y with
  | .tup ds, .int i => (L2.atI ds i).map fun d => (d, S)
  | .loc n, .int i => (match S[n]? with
    | some (Cell.lst ds) => (L2.atI ds i).map fun d => (d, S)
    | some (Cell.ro ds) => (L2.atI ds i).map fun d => (d, S)
    | _ => none)
  | .str z, .int i => if z.length ≤ 1000000 then (L2.atI z.cps.toList i).map fun c => (.str ⟨#[c]⟩, S) else none
  | _, _ => none
theorem s_ix {K : PySem.W.Frag} : OpS K (rIx K) oIx := by
  intro x y v u H ρ S d S' Q rx ry ok e k
  cases rx with
  | tup h rl =>
    cases ry with
    | int i =>
      obtain ⟨z, e1, e⟩ := Option.map_eq_some_iff.mp e
      cases e
      obtain ⟨w, h1, h2⟩ := rl.atI e1
      exact .inr (.inl ⟨_, _, i, w, rfl, rfl, h.any, h1, k _ H ρ .refl ok h2⟩)
    | _ => cases e
  | @loc n l hn =>
    cases ry with
    | int i =>
      have e0 : (match S[n]? with
        | some (Cell.lst ds) => (L2.atI ds i).map fun d => (d, S)
        | some (Cell.ro ds) => (L2.atI ds i).map fun d => (d, S)
        | _ => none) = some (d, S') := e
      have go : ∀ ds, (S[n]? = some (Cell.lst ds) ∨ S[n]? = some (Cell.ro ds)) → (L2.atI ds i).map (fun d => (d, S)) = some (d, S') → rIx K (.ref l) (.int i) H Q := fun ds hs e => by
        obtain ⟨z, e1, e⟩ := Option.map_eq_some_iff.mp e
        cases e
        obtain ⟨vs, q1, q2⟩ := ok.list hn hs
        obtain ⟨w, h1, h2⟩ := q2.atI e1
        exact .inl ⟨_, _, i, w, rfl, rfl, q1, h1, k _ H ρ .refl ok h2⟩
      cases hs : S[n]? with
      | none => rw [hs] at e0; cases e0
      | some c =>
        rw [hs] at e0
        cases c with
        | lst ds => exact go ds (.inl hs) e0
        | ro ds => exact go ds (.inr hs) e0
        | dk _ => cases e0
        | dt _ => cases e0
    | _ => cases e
  | str z =>
    cases ry with
    | int i =>
      by_cases hc : z.length ≤ 1000000
      · have e' : oIx (.str z) (.int i) S = (L2.atI z.cps.toList i).map fun c => (.str ⟨#[c]⟩, S) := if_pos hc
        rw [e'] at e
        obtain ⟨c, e1, e⟩ := Option.map_eq_some_iff.mp e
        cases e
        exact .inr (.inr ⟨z, i, c, rfl, rfl, Nat.le_trans hc (by decide), e1, k _ H ρ .refl ok (.str _)⟩)
      · have e' : oIx (.str z) (.int i) S = none := if_neg hc
        rw [e'] at e; cases e
    | _ => cases e
  | _ => cases e
theorem q_ix (ha : QE X a ma) (hb : QE X b mb) (hs : PlainIx b := by exact fun _ _ => rfl) : QE X (.Subscript a b pos) (ev2 oIx ma mb) := ⟨PE.imp (pe_ix ix_seq ha.ok hb.ok hs) (t_op s_ix)⟩
end
end Q2
namespace Q2
open PySem L2
section
variable {X : Cx} {a b c e : Expr} {ma mb mc : Ev} {pos p : Pos} {es : List Expr} {mr : EvA} {x : Str}
/-! ### calls -/
def evF (F : Fn) (mr : EvA) : Ev := fun σ S => (mr σ S).bind fun p => F p.1 p.2
def CallS (K : PySem.W.Frag) (r : List V → Hp → VK → Prop) (F : Fn) : Prop := ∀ ds vs H ρ S d S' (Q : VK), RelL K H ρ ds vs → Ok K H ρ S → F ds S = some (d, S') →
  (∀ v' H' ρ', Ex K H ρ H' ρ' → Ok K H' ρ' S' → Rel K H' ρ' d v' → Q v' H') → r vs H Q
theorem t_cb {K : PySem.W.Frag} {r : List V → Hp → VK → Prop} {F : Fn} {mr : EvA} (hs : CallS K r F) : ∀ (σ : L2.St) (H : Hp) (Q : VK), T K (evF F mr) σ H Q → tCB r (TAd K mr) σ H Q := fun σ H Q h => by
  obtain ⟨σd, S, ρ, d, S', so, ok, e, k⟩ := h
  obtain ⟨⟨xs, S1⟩, e1, e⟩ := Option.bind_eq_some_iff.mp e
  refine ⟨σd, S, ρ, xs, S1, so, ok, e1, fun vs H1 ρ1 x1 ok1 r1 => ?_⟩
  exact hs xs vs H1 ρ1 S1 d S' Q r1 ok1 e fun v' H' ρ' x3 ok3 r3 => k v' H' ρ' (x1.trans x3) ok3 r3
theorem q_callB {id : String} {r : List V → Hp → VK → Prop} {F : Fn} (hc : CallR X (.builtin id) r) (hS : CallS X.K r F) (hm : X.mg x = none) (hv : bootBuiltins x = some (.builtin id)) (ha : QA X (e :: es) mr) (hg : Gl X x := by rfl) (hn : x ≠ "__name__" := by decide) (hdb : (x == ("__debug__" : Str)) = false := by decide)
    (he : starEach (e :: es) X.env = (false, eval e X.env) :: starEach es X.env := by rfl) (hpl : (backTo pos (starEach es X.env)).any (·.1) = false := by rfl) : QE X (.Call (.Name x p) (e :: es) [] pos) (evF F mr) :=
  ⟨PE.imp (pe_callB hc hg hm hv ha.ok hn hdb he hpl) (t_cb hS)⟩
theorem q_callT {Ty : String} {r : List V → Hp → VK → Prop} {F : Fn} (hc : CallR X (.type Ty) r) (hS : CallS X.K r F) (hm : X.mg x = none) (hv : bootBuiltins x = some (.type Ty)) (ha : QA X (e :: es) mr) (hg : Gl X x := by rfl) (hn : x ≠ "__name__" := by decide) (hdb : (x == ("__debug__" : Str)) = false := by decide)
    (he : starEach (e :: es) X.env = (false, eval e X.env) :: starEach es X.env := by rfl) (hpl : (backTo pos (starEach es X.env)).any (·.1) = false := by rfl) : QE X (.Call (.Name x p) (e :: es) [] pos) (evF F mr) :=
  ⟨PE.imp (pe_callTy hc hg hm hv ha.ok hn hdb he hpl) (t_cb hS)⟩
theorem RelL.one_inv {K H ρ} {d : D} {vs : List V} (r : RelL K H ρ [d] vs) : ∃ v, vs = [v] ∧ Rel K H ρ d v := by
  cases r with
  | cons r1 r2 => cases r2; exact ⟨_, rfl, r1⟩
theorem RelL.two_inv {K H ρ} {d d2 : D} {vs : List V} (r : RelL K H ρ [d, d2] vs) : ∃ v v2, vs = [v, v2] ∧ Rel K H ρ d v ∧ Rel K H ρ d2 v2 := by
  cases r with
  | cons r1 r2 =>
    cases r2 with
    | cons r2 r3 => cases r3; exact ⟨_, _, rfl, r1, r2⟩
/-- a list's or a tuple's items -/
def itemsD (d : D) (S : Store) : Option (List D) := match d with
  | .tup ds => some ds
  | .loc n => (match S[n]? with
    | some (Cell.lst ds) => some ds
    | some (Cell.ro ds) => some ds
    | _ => none)
  | _ => none
theorem items_ok {K H ρ S d ds v} (ok : Ok K H ρ S) (r : Rel K H ρ d v) (e : itemsD d S = some ds) : ∃ a vs, v = .ref a ∧ RelL K H ρ ds vs ∧ (SqL K H a vs ∨ SqT K H a vs) := by
  cases r with
  | tup h rl => cases e; exact ⟨_, _, rfl, rl, .inr h⟩
  | @loc n l hn =>
    have e0 : (match S[n]? with
      | some (Cell.lst ds) => some ds
      | some (Cell.ro ds) => some ds
      | _ => none) = some ds := e
    cases hs : S[n]? with
    | none => rw [hs] at e0; cases e0
    | some c =>
      rw [hs] at e0
      cases c with
      | lst _ => cases e0; obtain ⟨vs, h1, h2⟩ := ok.list hn (.inl hs); exact ⟨l, vs, rfl, h2, .inl h1⟩
      | ro _ => cases e0; obtain ⟨vs, h1, h2⟩ := ok.list hn (.inr hs); exact ⟨l, vs, rfl, h2, .inl h1⟩
      | dk _ => cases e0
      | dt _ => cases e0
  | _ => cases e
def fn1 (o : Op1) : Fn := fun ds S => match ds with
  | [d] => o d S
  | _ => none
def fn2 (o : Op2) : Fn := fun ds S => match ds with
  | [d, f] => o d f S
  | _ => none
theorem s_fn1 {K : PySem.W.Frag} {r : List V → Hp → VK → Prop} {o : Op1} (h : UnS K (fun x => r [x]) o) : CallS K r (fn1 o) := by
  intro ds vs H ρ S d S' Q rl ok e k
  cases ds with
  | nil => cases e
  | cons x ds =>
    cases ds with
    | nil =>
      obtain ⟨v, rfl, r1⟩ := rl.one_inv
      exact h x v H ρ S d S' Q r1 ok e k
    | cons _ _ => cases e
theorem s_fn2 {K : PySem.W.Frag} {r : List V → Hp → VK → Prop} {o : Op2} (h : OpS K (fun x y => r [x, y]) o) : CallS K r (fn2 o) := by
  intro ds vs H ρ S d S' Q rl ok e k
  cases ds with
  | nil => cases e
  | cons x ds =>
    cases ds with
    | nil => cases e
    | cons y ds =>
      cases ds with
      | nil =>
        obtain ⟨v, w, rfl, r1, r2⟩ := rl.two_inv
        exact h x y v w H ρ S d S' Q r1 r2 ok e k
      | cons _ _ => cases e
/-! len -/
def oLen : Op1 := fun d S => match d with
  | .str z => if z.length ≤ 1000000 then some (.int z.length, S) else none
  | d => (itemsD d S).map fun xs => (.int xs.length, S)
def fLen : Fn := fn1 oLen
theorem s_len {K : PySem.W.Frag} : CallS K (fun xs H Q => ∃ x n, xs = [x] ∧ LenV K x H n ∧ Q (.int n) H) fLen := by
  refine s_fn1 fun x v H ρ S d S' Q r ok e k => ?_
  have go : (itemsD x S).map (fun xs => (D.int xs.length, S)) = some (d, S') → ∃ x n, [v] = [x] ∧ LenV K x H n ∧ Q (.int n) H := fun e => by
    obtain ⟨xs, e1, e⟩ := Option.map_eq_some_iff.mp e
    cases e
    obtain ⟨a, vs, rfl, rl, h⟩ := items_ok ok r e1
    refine ⟨_, xs.length, rfl, ?_, k _ H ρ .refl ok (.int _)⟩
    rcases h with h | h
    · exact .inl ⟨vs, h, rl.length⟩
    · exact .inr ⟨vs, h.any, rl.length⟩
  cases r with
  | str z =>
    by_cases hc : z.length ≤ 1000000
    · have e' : oLen (.str z) S = some (.int z.length, S) := if_pos hc
      rw [e'] at e; cases e
      exact ⟨.str z, z.length, rfl, (show _ ∧ _ from ⟨Nat.le_trans hc (by decide), rfl⟩), k _ H ρ .refl ok (.int _)⟩
    · have e' : oLen (.str z) S = none := if_neg hc
      rw [e'] at e; cases e
  | tup h rl => exact go e
  | loc h => exact go e
  | _ => cases e
theorem q_len (hm : X.mg "len" = none) (ha : QA X [e] mr) (hg : Gl X "len" := by rfl) (he : starEach [e] X.env = (false, eval e X.env) :: starEach [] X.env := by rfl) (hpl : (backTo pos (starEach [] X.env)).any (·.1) = false := by rfl) : QE X (.Call (.Name "len" p) [e] [] pos) (evF fLen mr) :=
  q_callB call_len s_len hm PySem.boot_len ha hg (by decide) (by decide) he hpl
/-! abs, min, max of two, int -/
def fInt2 (g : Int → Int → Int) : Fn := fn2 (o2i fun i j => .int (g i j))
theorem s_int2 {K : PySem.W.Frag} {g : Int → Int → Int} : CallS K (fun xs H Q => ∃ i j, xs = [.int i, .int j] ∧ Q (.int (g i j)) H) (fInt2 g) := by
  refine s_fn2 fun x y v u H ρ S d S' Q rx ry ok e k => ?_
  cases rx with
  | int i =>
    cases ry with
    | int j => cases e; exact ⟨i, j, rfl, k _ H ρ .refl ok (.int _)⟩
    | _ => cases e
  | _ => cases e
def oInt1 : Op1 := fun d S => match d with
  | .int i => some (.int i, S)
  | .bl k => some (.int (if k then 1 else 0), S)
  | _ => none
def fInt1 : Fn := fn1 oInt1
variable {f2 : Expr}
theorem q_min2 (hc : X.calm = true) (hm : X.mg "min" = none) (ha : QA X [e, f2] mr) (hg : Gl X "min" := by rfl) (he : starEach [e, f2] X.env = (false, eval e X.env) :: starEach [f2] X.env := by rfl) (hpl : (backTo pos (starEach [f2] X.env)).any (·.1) = false := by rfl) : QE X (.Call (.Name "min" p) [e, f2] [] pos) (evF (fInt2 fun i j => if j < i then j else i) mr) :=
  q_callB (call_min2 hc) s_int2 hm (by decide +kernel) ha hg (by decide) (by decide) he hpl
theorem q_max2 (hc : X.calm = true) (hm : X.mg "max" = none) (ha : QA X [e, f2] mr) (hg : Gl X "max" := by rfl) (he : starEach [e, f2] X.env = (false, eval e X.env) :: starEach [f2] X.env := by rfl) (hpl : (backTo pos (starEach [f2] X.env)).any (·.1) = false := by rfl) : QE X (.Call (.Name "max" p) [e, f2] [] pos) (evF (fInt2 fun i j => if j > i then j else i) mr) :=
  q_callB (call_max2 hc) s_int2 hm (by decide +kernel) ha hg (by decide) (by decide) he hpl
/-! list(xs), tuple(xs) -/
def fList : Fn := fn1 fun d S => (itemsD d S).map fun xs => (.loc S.length, S ++ [.lst xs])
theorem s_list {K : PySem.W.Frag} : CallS K (fun xs H Q => ∃ p ys, xs = [.ref p] ∧ (SqL K H p ys ∨ L2.SqT K H p ys) ∧ ∀ l, H l = none → Q (.ref l) (upd H l (.lst ys))) fList := by
  refine s_fn1 fun x v H ρ S d S' Q r ok e k => ?_
  obtain ⟨xs, e1, e⟩ := Option.map_eq_some_iff.mp e
  cases e
  obtain ⟨a, vs, rfl, rl, h⟩ := items_ok ok r e1
  refine ⟨a, vs, rfl, h.imp id SqT.any, fun l hl => ?_⟩
  obtain ⟨z1, z2, z3⟩ := ok.lastL hl rl
  exact k _ _ _ z1 z2 z3
theorem q_list (hm : X.mg "list" = none) (ha : QA X [e] mr) (hg : Gl X "list" := by rfl) (he : starEach [e] X.env = (false, eval e X.env) :: starEach [] X.env := by rfl) (hpl : (backTo pos (starEach [] X.env)).any (·.1) = false := by rfl) : QE X (.Call (.Name "list" p) [e] [] pos) (evF fList mr) :=
  q_callT call_list_of s_list hm (by decide +kernel) ha hg (by decide) (by decide) he hpl
def fTuple : Fn := fn1 fun d S => (itemsD d S).map fun xs => (.tup xs, S)
theorem s_tuple {K : PySem.W.Frag} : CallS K (fun xs H Q => ∃ p ys, xs = [.ref p] ∧ ((SqL K H p ys ∧ ∀ l, H l = none → Q (.ref l) (upd H l (.tup ys))) ∨ (L2.SqT K H p ys ∧ Q (.ref p) H))) fTuple := by
  refine s_fn1 fun x v H ρ S d S' Q r ok e k => ?_
  obtain ⟨xs, e1, e⟩ := Option.map_eq_some_iff.mp e
  cases e
  obtain ⟨a, vs, rfl, rl, h⟩ := items_ok ok r e1
  refine ⟨a, vs, rfl, ?_⟩
  rcases h with h | h
  · exact .inl ⟨h, fun l hl => k _ _ ρ (Ex.new hl) (ok.new hl) (.tup (SqT.of upd_same) (rl.mono (Ex.new hl)))⟩
  · exact .inr ⟨h.any, k _ H ρ .refl ok (.tup h rl)⟩
theorem q_tuple (hm : X.mg "tuple" = none) (ha : QA X [e] mr) (hg : Gl X "tuple" := by rfl) (he : starEach [e] X.env = (false, eval e X.env) :: starEach [] X.env := by rfl) (hpl : (backTo pos (starEach [] X.env)).any (·.1) = false := by rfl) : QE X (.Call (.Name "tuple" p) [e] [] pos) (evF fTuple mr) :=
  q_callT call_tuple_of s_tuple hm (by decide +kernel) ha hg (by decide) (by decide) he hpl
/-! sum of a list of ints -/
def intsOf : List D → Option (List Int)
  | [] => some []
  | .int i :: r => (intsOf r).map (i :: ·)
  | _ => none
theorem intsOf_ints : ∀ ns : List Int, intsOf (ns.map D.int) = some ns
  | [] => rfl
  | n :: ns => by show (intsOf (ns.map D.int)).map (n :: ·) = _; rw [intsOf_ints ns]; rfl
/-- a list's items -/
def lstD (d : D) (S : Store) : Option (List D) := match d with
  | .loc n => (match S[n]? with
    | some (Cell.lst ds) => some ds
    | some (Cell.ro ds) => some ds
    | _ => none)
  | _ => none
theorem lst_ok {K H ρ S d ds v} (ok : Ok K H ρ S) (r : Rel K H ρ d v) (e : lstD d S = some ds) : ∃ a vs, v = .ref a ∧ RelL K H ρ ds vs ∧ SqL K H a vs := by
  cases r with
  | @loc n l hn =>
    have e0 : (match S[n]? with
      | some (Cell.lst ds) => some ds
      | some (Cell.ro ds) => some ds
      | _ => none) = some ds := e
    cases hs : S[n]? with
    | none => rw [hs] at e0; cases e0
    | some c =>
      rw [hs] at e0
      cases c with
      | lst _ => cases e0; obtain ⟨vs, h1, h2⟩ := ok.list hn (.inl hs); exact ⟨l, vs, rfl, h2, h1⟩
      | ro _ => cases e0; obtain ⟨vs, h1, h2⟩ := ok.list hn (.inr hs); exact ⟨l, vs, rfl, h2, h1⟩
      | dk _ => cases e0
      | dt _ => cases e0
  | _ => cases e
/-! ### repr -/
def ReprOk (d : PyData) : Prop := d.showable = true ∧ d.hasDict = false ∧ d.depth ≤ 64 ∧ d.shown.length ≤ sizeLine
instance (d : PyData) : Decidable (ReprOk d) := by unfold ReprOk; infer_instance
def rRepr (K : PySem.W.Frag) : List V → Hp → VK → Prop := fun xs H Q => ∃ x d, xs = [x] ∧ Dp K H x d ∧ ReprOk d ∧ Q (.str d.shown) H
theorem call_repr {k : Nat} (hr : Room k X.A) : CallR X (.builtin "repr") (rRepr X.K) := by
  intro pins s σ H xs us Q I r h
  obtain ⟨x, d, rfl, hd, ⟨h1, h2, h3, h4⟩, q⟩ := h
  obtain ⟨u, rfl, ru⟩ := Vals.one r
  obtain ⟨as, rd⟩ := Dp.reads I d x u hd ru
  have hu := hr.un
  cases hd with
  | non => cases ru; exact PySem.P.repr_of_none ⟨.str _, H, I.tok _, ⟨_, rfl⟩, q⟩
  | bl b => cases ru; exact PySem.P.repr_of_bool ⟨.str _, H, I.tok _, ⟨_, rfl⟩, q⟩
  | int i =>
    obtain ⟨t, rfl⟩ := ru
    have h1' : i.natAbs.log2 < 1920 := of_decide_eq_true h1
    exact PySem.P.repr_of_int h1' ⟨.str _, H, I.tok _, ⟨_, rfl⟩, q⟩
  | str x =>
    obtain ⟨t, rfl⟩ := ru
    exact PySem.P.repr_of_str ⟨.str _, H, I.tok _, ⟨_, rfl⟩, q⟩ h4
  | lst _ _ =>
    cases ru
    exact repr_of_reads' rd h1 (PyData.noDict_hsm h2) hr.gd (by omega) (fun b o e => e) (fun h' u tk hk => ⟨.str _, H, I.kept hk, ⟨_, rfl⟩, q⟩) h4
  | tup _ _ =>
    cases ru
    exact repr_of_reads' rd h1 (PyData.noDict_hsm h2) hr.gd (by omega) (fun b o e => e) (fun h' u tk hk => ⟨.str _, H, I.kept hk, ⟨_, rfl⟩, q⟩) h4
def fRepr : Fn := fn1 fun d S => (toP S 8 d).bind fun p => if ReprOk p then some (.str p.shown, S) else none
theorem s_repr {K : PySem.W.Frag} : CallS K (rRepr K) fRepr := by
  refine s_fn1 fun x v H ρ S d S' Q r ok e k => ?_
  obtain ⟨p, e1, e⟩ := Option.bind_eq_some_iff.mp e
  by_cases hc : ReprOk p
  · have e' := (if_pos hc).symm.trans e
    cases e'
    exact ⟨v, p, rfl, toP_dp ok 8 e1 r, hc, k _ H ρ .refl ok (.str _)⟩
  · have e' := (if_neg hc).symm.trans e
    cases e'
theorem q_repr {k : Nat} (hr : Room k X.A) (hm : X.mg "repr" = none) (ha : QA X [e] mr) (hg : Gl X "repr" := by rfl) (he : starEach [e] X.env = (false, eval e X.env) :: starEach [] X.env := by rfl) (hpl : (backTo pos (starEach [] X.env)).any (·.1) = false := by rfl) : QE X (.Call (.Name "repr" p) [e] [] pos) (evF fRepr mr) :=
  q_callB (call_repr hr) s_repr hm (by decide +kernel) ha hg (by decide) (by decide) he hpl
end
end Q2
namespace Q2
open PySem L2
/-! ### defs of the text -/
def spF (K : PySem.W.Frag) (F : Fn) : Sp := fun vs H Q _ => ∃ ds S ρ d S', RelL K H ρ ds vs ∧ Ok K H ρ S ∧ F ds S = some (d, S') ∧ ∀ v H' ρ', Ex K H ρ H' ρ' → Ok K H' ρ' S' → Rel K H' ρ' d v → Q v H'
structure DefOk (P : Program) (w : World) (K : PySem.W.Frag) (mg : Str → Option Value) (base : Heap) (k : Nat) (x : Str) (F : Fn) : Prop where
  ex : ∃ f fd ps, FnOk P w K mg base CX0 k f fd ps (spF K F) ∧ mg x = some (.ref f) ∧ PySem.W.keepIn K (.ref f) = true ∧ Binds K fd ps []
theorem DefOk.mono {P w K mg base j k x F} (h : DefOk P w K mg base j x F) (hj : j ≤ k) : DefOk P w K mg base k x F :=
  let ⟨f, fd, ps, h1, h2⟩ := h.ex; ⟨f, fd, ps, h1.mono hj, h2⟩
section
variable {X : Cx} {a b c e : Expr} {ma mb mc : Ev} {pos p : Pos} {es : List Expr} {mr : EvA} {x : Str}
theorem q_call {F : Fn} {k : Nat} (G : DefOk X.prog X.w X.K X.mg X.base k x F) (hr : Room k X.A) (ha : QA X (e :: es) mr) (hg : Gl X x := by rfl) (hdb : (x == ("__debug__" : Str)) = false := by decide)
    (he : starEach (e :: es) X.env = (false, eval e X.env) :: starEach es X.env := by rfl) (hpl : (backTo pos (starEach es X.env)).any (·.1) = false := by rfl) : QE X (.Call (.Name x p) (e :: es) [] pos) (evF F mr) := by
  obtain ⟨f, fd, ps, h1, h2, h3, h4⟩ := G.ex
  refine ⟨PE.imp (pe_call (dvs := []) h1 hr hg h2 h3 h4 .nil pass0 ha.ok hdb he hpl) fun σ H Q h => ?_⟩
  obtain ⟨σd, S, ρ, d, S', so, ok, e, k⟩ := h
  obtain ⟨⟨xs, S1⟩, e1, e⟩ := Option.bind_eq_some_iff.mp e
  refine ⟨σd, S, ρ, xs, S1, so, ok, e1, fun vs H1 ρ1 x1 ok1 r1 => ?_⟩
  refine ⟨xs, S1, ρ1, d, S', by rw [List.append_nil]; exact r1, ok1, e, fun v' H' ρ' x3 ok3 r3 => k v' H' ρ' (x1.trans x3) ok3 r3⟩
end
/-- what is told may be told otherwise: cells that nobody asks for are forgotten -/
def Gc (S : Store) (d : D) (S1 : Store) (d' : D) (S2 : Store) : Prop := ∀ K H ρ H' ρ' v, Ok K H ρ S → Ex K H ρ H' ρ' → Ok K H' ρ' S1 → Rel K H' ρ' d v → ∃ ρ'', Ex K H ρ H' ρ'' ∧ Ok K H' ρ'' S2 ∧ Rel K H' ρ'' d' v
theorem Gc.refl {S d S1} : Gc S d S1 d S1 := fun _ _ _ _ ρ' _ _ e o r => ⟨ρ', e, o, r⟩
/-! closed data: no lists within -/
mutual
def D.cl : D → Bool
  | .tup ds => D.clL ds
  | .loc _ => false
  | .non => true
  | .bl _ => true
  | .int _ => true
  | .str _ => true
def D.clL : List D → Bool
  | [] => true
  | d :: ds => d.cl && D.clL ds
end
def Cell.cl : Cell → Bool
  | .lst ds => D.clL ds
  | .ro ds => D.clL ds
  | .dk kvs => D.clL (kvs.map (·.2))
  | .dt kvs => D.clL (kvs.map (·.2))
mutual
theorem Rel.anyR {K H ρ ρ'} : ∀ {d : D} {v : V}, d.cl = true → Rel K H ρ d v → Rel K H ρ' d v
  | .non, _, _, h => by cases h; exact .non
  | .bl _, _, _, h => by cases h; exact .bl _
  | .int _, _, _, h => by cases h; exact .int _
  | .str _, _, _, h => by cases h; exact .str _
  | .tup ds, _, c, h => by
    cases h with
    | tup q l => exact .tup q (RelL.anyR (by simpa [D.cl] using c) l)
  | .loc _, _, c, _ => by simp [D.cl] at c
theorem RelL.anyR {K H ρ ρ'} : ∀ {ds : List D} {vs : List V}, D.clL ds = true → RelL K H ρ ds vs → RelL K H ρ' ds vs
  | [], _, _, h => by cases h; exact .nil
  | d :: ds, _, c, h => by
    have c' : d.cl = true ∧ D.clL ds = true := by simpa [D.clL] using c
    cases h with
    | cons r t => exact .cons (Rel.anyR c'.1 r) (RelL.anyR c'.2 t)
end
mutual
theorem Rel.back {K H ρ H' ρ'} (hp : ∀ (n : Nat) a, ρ[n]? = some a → ρ'[n]? = some a) : ∀ {d : D} {u v : V}, Rel K H ρ d u → Rel K H' ρ' d v → Rel K H' ρ d v
  | .non, _, _, _, h => by cases h; exact .non
  | .bl _, _, _, _, h => by cases h; exact .bl _
  | .int _, _, _, _, h => by cases h; exact .int _
  | .str _, _, _, _, h => by cases h; exact .str _
  | .tup ds, _, _, g, h => by
    cases h with
    | tup q l =>
      cases g with
      | tup _ l0 => exact .tup q (RelL.back hp l0 l)
  | .loc n, _, _, g, h => by
    cases h with
    | loc q =>
      cases g with
      | loc q0 =>
        have z := hp _ _ q0
        rw [q] at z; cases z
        exact .loc q0
theorem RelL.back {K H ρ H' ρ'} (hp : ∀ (n : Nat) a, ρ[n]? = some a → ρ'[n]? = some a) : ∀ {ds : List D} {us vs : List V}, RelL K H ρ ds us → RelL K H' ρ' ds vs → RelL K H' ρ ds vs
  | [], _, _, _, h => by cases h; exact .nil
  | d :: ds, _, _, g, h => by
    cases h with
    | cons r t =>
      cases g with
      | cons r0 t0 => exact .cons (Rel.back hp r0 r) (RelL.back hp t0 t)
end
theorem CellOk.anyR {K H ρ ρ' a} {c : Cell} (hc : c.cl = true) (h : CellOk K H ρ a c) : CellOk K H ρ' a c := by
  cases c with
  | lst ds => obtain ⟨vs, h1, h2⟩ := h; exact ⟨vs, h1, h2.anyR hc⟩
  | ro ds => obtain ⟨vs, h1, h2⟩ := h; exact ⟨vs, h1.anyR hc, h2⟩
  | dk kvs => obtain ⟨vs, h1, h0, h2⟩ := h; exact ⟨vs, h1, h0, h2.anyR hc⟩
  | dt kvs => obtain ⟨vs, h1, h0, h2⟩ := h; exact ⟨vs, h1, h0, h2.anyR hc⟩
/-- the cells ahead are as they were, or closed -/
def Keeps (S S1 : Store) : Prop := S.length ≤ S1.length ∧ ∀ i < S.length, S1[i]? = S[i]? ∨ ∃ c, S1[i]? = some c ∧ c.cl = true
theorem Keeps.refl {S} : Keeps S S := ⟨Nat.le_refl _, fun _ _ => .inl rfl⟩
theorem Keeps.app {S T : Store} : Keeps S (S ++ T) := ⟨by simp, fun i hi => .inl (List.getElem?_append_left hi)⟩
theorem Keeps.ok {K H ρ H' ρ' S S1} (k : Keeps S S1) (ok : Ok K H ρ S) (x : Ex K H ρ H' ρ') (ok1 : Ok K H' ρ' S1) : Ok K H' ρ (S1.take S.length) := by
  have hl : ρ.length = S.length := ok.len
  have get : ∀ i b, ρ[i]? = some b → ρ'[i]? = some b := x.pre
  have gt : ∀ (i : Nat) (c : Cell), (S1.take S.length)[i]? = some c → i < S.length ∧ S1[i]? = some c := fun i c h => by
    have := (List.getElem?_eq_some_iff.mp h).1
    rw [List.length_take] at this
    have hi : i < S.length := by omega
    rw [List.getElem?_take_of_lt hi] at h
    exact ⟨hi, h⟩
  refine ⟨by rw [List.length_take, hl]; exact (Nat.min_eq_left k.1).symm, fun i j b ds es hij e1 e2 e3 e4 => ?_, fun i b c e1 e2 => ?_, ok1.tab, fun i j b c c' hij e1 e2 e3 e4 d1 d2 => ok1.sepD i j b c c' hij (get i b e1) (get j b e2) (gt i _ e3).2 (gt j _ e4).2 d1 d2⟩
  · obtain ⟨_, f3⟩ := gt i _ e3
    obtain ⟨_, f4⟩ := gt j _ e4
    exact ok1.sep i j b ds es hij (get i b e1) (get j b e2) f3 f4
  · obtain ⟨hi, f2⟩ := gt i c e2
    have q := ok1.cell i b c (get i b e1) f2
    rcases k.2 i hi with h | ⟨c', h, hc⟩
    · rw [f2] at h
      have q0 := ok.cell i b c e1 h.symm
      cases c with
      | lst ds =>
        obtain ⟨vs, h1, h2⟩ := q
        obtain ⟨us, g1, g2⟩ := q0
        exact ⟨vs, h1, RelL.back x.pre g2 h2⟩
      | ro ds =>
        obtain ⟨vs, h1, h2⟩ := q
        obtain ⟨us, g1, g2⟩ := q0
        exact ⟨vs, RelL.back x.pre g1 h1, h2⟩
      | dk kvs =>
        obtain ⟨vs, h1, h0, h2⟩ := q
        obtain ⟨us, g1, g0, g2⟩ := q0
        exact ⟨vs, h1, h0, RelL.back x.pre g2 h2⟩
      | dt kvs =>
        obtain ⟨vs, h1, h0, h2⟩ := q
        obtain ⟨us, g1, g0, g2⟩ := q0
        exact ⟨vs, h1, h0, RelL.back x.pre g2 h2⟩
    · rw [f2] at h; cases h
      exact q.anyR hc
/-- new cells are forgotten behind a closed answer -/
theorem Gc.drop {S S1 : Store} {d : D} (hd : d.cl = true) (k : Keeps S S1) : Gc S d S1 d (S1.take S.length) := fun K H ρ H' ρ' v ok x ok1 r =>
  ⟨ρ, ⟨x.tup, fun _ _ h => h⟩, k.ok ok x ok1, r.anyR hd⟩
/-- .. but for the list that is told -/
theorem Gc.list {S S1 : Store} {n : Nat} {ds : List D} (hn : S1[n]? = some (Cell.lst ds)) (hS : S.length ≤ n) (hd : D.clL ds = true) (k : Keeps S S1) : Gc S (.loc n) S1 (.loc S.length) (S1.take S.length ++ [.lst ds]) := fun K H ρ H' ρ' v ok x ok1 r => by
  have okS := k.ok ok x ok1
  have hlen : (S1.take S.length).length = S.length := by rw [List.length_take]; exact Nat.min_eq_left k.1
  cases r with
  | @loc _ a ha =>
    obtain ⟨vs, h1, h2⟩ := ok1.own ha hn
    have ex : Ex K H ρ H' (ρ ++ [a]) := ⟨x.tup, (Ex.more (K := K) (H := H) [a]).pre⟩
    have ex1 : Ex K H' ρ H' (ρ ++ [a]) := Ex.more [a]
    have old : ∀ (i : Nat) b c, i < S.length → (ρ ++ [a])[i]? = some b → (S1.take S.length ++ [Cell.lst ds])[i]? = some c → ρ[i]? = some b ∧ (S1.take S.length)[i]? = some c := fun i b c hi e1 e2 => by
      rw [List.getElem?_append_left (by rw [ok.len]; exact hi)] at e1
      rw [List.getElem?_append_left (by rw [hlen]; exact hi)] at e2
      exact ⟨e1, e2⟩
    have lst : ∀ (i : Nat) b c, ¬ i < S.length → (ρ ++ [a])[i]? = some b → (S1.take S.length ++ [Cell.lst ds])[i]? = some c → i = S.length ∧ b = a ∧ c = .lst ds := fun i b c hi e1 e2 => by
      have hl := (List.getElem?_eq_some_iff.mp e2).1
      rw [List.length_append, List.length_singleton, hlen] at hl
      have hi' : i = S.length := by omega
      subst hi'
      rw [List.getElem?_append_right (by rw [ok.len]; exact Nat.le_refl _), ok.len, Nat.sub_self] at e1
      rw [List.getElem?_append_right (by rw [hlen]; exact Nat.le_refl _), hlen, Nat.sub_self] at e2
      exact ⟨rfl, by simpa using e1.symm, by simpa using e2.symm⟩
    have nota : ∀ (i : Nat) b es, i < S.length → ρ[i]? = some b → (S1.take S.length)[i]? = some (Cell.lst es) → b ≠ a := fun i b es hi e1 e2 z => by
      rw [List.getElem?_take_of_lt hi] at e2
      exact ok1.sep i n a es ds (by omega) (by rw [← z]; exact x.pre i b e1) ha e2 hn
    refine ⟨ρ ++ [a], ex, ⟨by rw [List.length_append, List.length_append, hlen, ok.len]; rfl, fun i j b es fs hij e1 e2 e3 e4 => ?_, fun i b c e1 e2 => ?_, ok1.tab, fun i j b c c' hij e1 e2 e3 e4 d1 d2 => ?_⟩, .loc (by rw [List.getElem?_append_right (by rw [ok.len]; exact Nat.le_refl _), ok.len, Nat.sub_self]; rfl)⟩
    · by_cases hi : i < S.length
      · obtain ⟨f1, f2⟩ := old i b _ hi e1 e3
        by_cases hj : j < S.length
        · obtain ⟨g1, g2⟩ := old j b _ hj e2 e4
          exact okS.sep i j b es fs hij f1 g1 f2 g2
        · obtain ⟨_, z, _⟩ := lst j b _ hj e2 e4
          exact nota i b es hi f1 f2 z
      · obtain ⟨hi', z, _⟩ := lst i b _ hi e1 e3
        by_cases hj : j < S.length
        · obtain ⟨g1, g2⟩ := old j b _ hj e2 e4
          exact nota j b fs hj g1 g2 z
        · obtain ⟨hj', _, _⟩ := lst j b _ hj e2 e4
          exact hij (hi'.trans hj'.symm)
    · by_cases hi : i < S.length
      · obtain ⟨f1, f2⟩ := old i b c hi e1 e2
        exact (okS.cell i b c f1 f2).keep ex1 fun o q => q
      · obtain ⟨_, eb, ec⟩ := lst i b c hi e1 e2
        subst eb ec
        exact ⟨vs, h1, h2.anyR hd⟩
    · have lt : ∀ k c, (ρ ++ [a])[k]? = some b → (S1.take S.length ++ [Cell.lst ds])[k]? = some c → c.isD = true → k < S.length := fun k c f1 f2 dd => Classical.byContradiction fun hk => by
        obtain ⟨_, _, ec⟩ := lst k b c hk f1 f2
        subst ec; cases dd
      obtain ⟨f1, f2⟩ := old i b c (lt i c e1 e3 d1) e1 e3
      obtain ⟨g1, g2⟩ := old j b c' (lt j c' e2 e4 d2) e2 e4
      exact okS.sepD i j b c c' hij f1 g1 f2 g2 d1 d2


end Q2
namespace Q2
open PySem L2
section
variable {X : Cx} {a b c e : Expr} {ma mb mc m : Ev} {t : EvT} {pos p : Pos} {es : List Expr} {mr : EvA} {x : Str} {st : Stmt} {rest : List Stmt} {s1 s2 : Sv}
theorem FlOk.later {K H ρ H1 ρ1 D f} (x : Ex K H ρ H1 ρ1) (h : FlOk K H ρ D f) : FlOk K H1 ρ1 D f := by
  cases f with
  | nx σ S => exact fun σ' H' ρ' y o s => h σ' H' ρ' (x.trans y) o s
  | rt d S => exact fun v H' ρ' y o s => h v H' ρ' (x.trans y) o s
  | bk σ S => exact fun σ' H' ρ' y o s => h σ' H' ρ' (x.trans y) o s
  | ct σ S => exact fun σ' H' ρ' y o s => h σ' H' ρ' (x.trans y) o s
def sSkip : Sv := fun σ S => some (.nx σ S)
def sSeq (s1 s2 : Sv) : Sv := fun σ S => (s1 σ S).bind fun f => match f with
  | .nx σ' S' => s2 σ' S'
  | f => some f
theorem qss_nil : QSs X [] sSkip := ⟨PSs.imp pss_nil fun D σ H h => by
  obtain ⟨σd, S, ρ, f, so, ok, e, k⟩ := h
  cases e
  exact k σ H ρ .refl ok so⟩
theorem qss_one (h : QS X st s1) : QSs X [st] s1 := ⟨pss_one h.ok⟩
theorem qss_cons (h1 : QS X st s1) (h2 : QSs X rest s2) : QSs X (st :: rest) (sSeq s1 s2) := ⟨PSs.imp (pss_cons h1.ok h2.ok) fun D σ H h => by
  obtain ⟨σd, S, ρ, f, so, ok, e, k⟩ := h
  obtain ⟨f1, e1, e⟩ := Option.bind_eq_some_iff.mp e
  refine ⟨σd, S, ρ, f1, so, ok, e1, ?_⟩
  cases f1 with
  | nx σ1 S1 => exact fun σ' H' ρ' y o s => ⟨σ1, S1, ρ', f, s, o, e, k.later y⟩
  | rt d S1 => cases e; exact k
  | bk σ1 S1 => cases e; exact k
  | ct σ1 S1 => cases e; exact k⟩
def sExpr (m : Ev) : Sv := fun σ S => (m σ S).map fun p => .nx σ p.2
theorem q_expr (he : QE X e m) (hs : swapsWith e none pos.line X.env = pure false := by rfl) : QS X (.Expr e pos) (sExpr m) := ⟨PS.imp (ps_expr he.ok hs) fun D σ H h => by
  obtain ⟨σd, S, ρ, f, so, ok, e, k⟩ := h
  obtain ⟨⟨d, S1⟩, e1, e⟩ := Option.map_eq_some_iff.mp e
  subst e
  exact ⟨σd, S, ρ, d, S1, so, ok, e1, fun v H' ρ' x o r => k σ H' ρ' x o (so.mono x)⟩⟩
def sRet (m : Ev) : Sv := fun σ S => (m σ S).map fun p => .rt p.1 p.2
theorem q_ret (he : QE X e m) : QS X (.Return (some e) pos) (sRet m) := ⟨PS.imp (ps_ret he.ok) fun D σ H h => by
  obtain ⟨σd, S, ρ, f, so, ok, e, k⟩ := h
  obtain ⟨⟨d, S1⟩, e1, e⟩ := Option.map_eq_some_iff.mp e
  subst e
  exact ⟨σd, S, ρ, d, S1, so, ok, e1, k⟩⟩
def sIf (t : EvT) (s1 s2 : Sv) : Sv := fun σ S => (t σ S).bind fun p => if p.1 = true then s1 σ p.2 else s2 σ p.2
theorem q_sif {sa sb : List Stmt} (hc : QT X c t) (ha : QSs X sa s1) (hb : QSs X sb s2) : QS X (.If c sa sb pos) (sIf t s1 s2) := ⟨PS.imp (ps_if hc.ok ha.ok hb.ok) fun D σ H h => by
  obtain ⟨σd, S, ρ, f, so, ok, e, k⟩ := h
  obtain ⟨⟨d, S1⟩, e1, e⟩ := Option.bind_eq_some_iff.mp e
  refine ⟨σd, S, ρ, d, S1, so, ok, e1, fun H1 ρ1 x1 ok1 => ?_⟩
  cases d with
  | true => exact ⟨σd, S1, ρ1, f, so.mono x1, ok1, e, k.later x1⟩
  | false => exact ⟨σd, S1, ρ1, f, so.mono x1, ok1, e, k.later x1⟩⟩
/-! ### assignments -/
def sSet (i : Nat) (m : Ev) : Sv := fun σ S => (m σ S).map fun p => .nx (σ.set i (some p.1)) p.2
theorem t_set {K : PySem.W.Frag} {i : Nat} {te : TE} (hte : ∀ σ H Q, T K m σ H Q → te σ H Q) : ∀ D σ H, TSd K (sSet i m) D σ H → tAsg te (gName i) D σ H := fun D σ H h => by
  obtain ⟨σd, S, ρ, f, so, ok, e, k⟩ := h
  obtain ⟨⟨d, S1⟩, e1, e⟩ := Option.map_eq_some_iff.mp e
  subst e
  exact hte _ _ _ ⟨σd, S, ρ, d, S1, so, ok, e1, fun v H' ρ' x o r => k _ H' ρ' x o ((so.mono x).set i r)⟩
theorem q_set (i : Nat) {pos' : Pos} (he : QE X e m) (hN : X.N.Nodup) (hi : X.N[i]? = some x := by rfl) (hx : Loc X.env.scope x := by first | exact Or.inl rfl | exact Or.inr rfl) (hs : swapsWith e (some (.Name x pos')) pos.line X.env = pure false := by rfl) (hf : X.fn x = true ∨ X.env.scope.names.lookup x = some .local := by first | exact .inl rfl | exact .inr rfl | assumption) :
    QS X (.Assign [.Name x pos'] e pos) (sSet i m) := ⟨PS.imp (ps_set hN hi hx he.ok hs hf) (t_set fun _ _ _ h => h)⟩
/-- targets of names alone -/
inductive Tg where
  | nm (i : Nat)
  | tp (is : List Nat)
def setAll : List Nat → List D → Sg → Option Sg
  | [], [], σ => some σ
  | i :: is, d :: ds, σ => setAll is ds (σ.set i (some d))
  | _, _, _ => none
def setD : Tg → D → Sg → Option Sg
  | .nm i, d, σ => some (σ.set i (some d))
  | .tp is, .tup ds, σ => setAll is ds σ
  | .tp _, _, _ => none
def gNs : List Nat → TGs
  | [] => gNil
  | i :: r => gCons (gName i) (gNs r)
def gT (K : PySem.W.Frag) : Tg → TG
  | .nm i => gName i
  | .tp is => gTup K is.length (gNs is)
def Tg.ix : Tg → List Nat
  | .nm i => [i]
  | .tp is => is
theorem wipe_out {σ : L2.St} {i : Nat} {o : Option V} : ∀ {vs : List Nat}, i ∉ vs → wipe (σ.set i o) vs = (wipe σ vs).set i o
  | [], _ => rfl
  | v :: vs, h => by
    have h1 : i ≠ v := fun z => h (by simp [z])
    have h2 : i ∉ vs := fun z => h (by simp [z])
    unfold wipe
    rw [wipe_out h2, List.set_comm _ _ h1]
theorem wipe_in {σ : L2.St} {i : Nat} {o : Option V} : ∀ {vs : List Nat}, i ∈ vs → wipe (σ.set i o) vs = wipe σ vs
  | [], h => by simp at h
  | v :: vs, h => by
    unfold wipe
    by_cases hv : i ∈ vs
    · rw [wipe_in hv]
    · have e : i = v := by
        rcases List.mem_cons.mp h with z | z
        · exact z
        · exact absurd z hv
      subst e
      rw [wipe_out hv, List.set_set]
theorem gNs_ok {K H ρ} : ∀ {is : List Nat} {ds : List D} {vs : List V} {σd σd' : Sg} {σ : L2.St} {Q : L2.St → Hp → Prop}, setAll is ds σd = some σd' → RelL K H ρ ds vs → Sok K H ρ σd σ →
    (∀ σ', Sok K H ρ σd' σ' → (∀ ws : List Nat, (∀ i ∈ is, i ∈ ws) → wipe σ' ws = wipe σ ws) → Q σ' H) → gNs is vs σ H Q
  | [], [], _, _, _, σ, Q, e, r, so, k => by
    cases e; cases r
    exact ⟨rfl, k σ so fun _ _ => rfl⟩
  | i :: is, d :: ds, _, σd, σd', σ, Q, e, r, so, k => by
    cases r with
    | @cons _ v _ vs r1 r2 =>
      refine ⟨v, vs, rfl, ?_⟩
      show gNs is vs (σ.set i (some v)) H Q
      refine gNs_ok e r2 (so.set i r1) fun σ' s w => k σ' s fun ws h => ?_
      rw [w ws fun j hj => h j (List.mem_cons_of_mem _ hj), wipe_in (h i List.mem_cons_self)]
  | [], _ :: _, _, _, _, _, _, e, _, _, _ => by cases e
  | _ :: _, [], _, _, _, _, _, e, _, _, _ => by cases e
theorem setAll_len : ∀ {is : List Nat} {ds : List D} {σ σ' : Sg}, setAll is ds σ = some σ' → is.length = ds.length
  | [], [], _, _, _ => rfl
  | i :: is, d :: ds, _, _, e => by rw [List.length_cons, List.length_cons, setAll_len (is := is) (ds := ds) e]
  | [], _ :: _, _, _, e => by cases e
  | _ :: _, [], _, _, e => by cases e
theorem gT_ok {K H ρ} {t : Tg} {d : D} {v : V} {σd σd' : Sg} {σ : L2.St} {Q : L2.St → Hp → Prop} (e : setD t d σd = some σd') (r : Rel K H ρ d v) (so : Sok K H ρ σd σ)
    (k : ∀ σ', Sok K H ρ σd' σ' → (∀ ws : List Nat, (∀ i ∈ t.ix, i ∈ ws) → wipe σ' ws = wipe σ ws) → Q σ' H) : gT K t v σ H Q := by
  cases t with
  | nm i =>
    cases e
    exact k _ (so.set i r) fun ws h => wipe_in (h i List.mem_cons_self)
  | tp is =>
    cases r with
    | tup h rl => exact ⟨_, _, rfl, h.any, by rw [← rl.length]; exact (setAll_len e).symm, gNs_ok e rl so k⟩
    | _ => cases e
structure QG (X : Cx) (e : Expr) (t : Tg) : Prop where
  ok : PG X e (gT X.K t)
structure QGs (X : Cx) (es : List Expr) (is : List Nat) : Prop where
  ok : PGs X es (gNs is)
theorem q_gname (i : Nat) (hN : X.N.Nodup) (hi : X.N[i]? = some x := by rfl) (hx : Loc X.env.scope x := by first | exact Or.inl rfl | exact Or.inr rfl) (hf : X.fn x = true ∨ X.env.scope.names.lookup x = some .local := by first | exact .inl rfl | exact .inr rfl | assumption) : QG X (.Name x pos) (.nm i) := ⟨pg_name hN hi hx hf⟩
theorem q_gnil : QGs X [] [] := ⟨pgs_nil⟩
theorem q_gcons {i : Nat} {is : List Nat} (h1 : QG X e (.nm i)) (h2 : QGs X es is) (hs : (assignEach (e :: es) X.env).map (·.2) = assign e X.env :: (assignEach es X.env).map (·.2) := by rfl) : QGs X (e :: es) (i :: is) := ⟨pgs_cons h1.ok h2.ok hs⟩
theorem q_gtup {k : Nat} {is : List Nat} (hc : X.calm = true) (h : QGs X es is) (hn : (assignEach es X.env).length = is.length := by rfl) (hst : (assignEach es X.env).findIdx? (·.1) = none := by rfl) : QG X (.Tuple es k pos) (.tp is) := ⟨pg_tup hc h.ok hn hst⟩
def sPar (i j : Nat) (mr : EvA) : Sv := fun σ S => (mr σ S).bind fun p => match p.1 with
  | [v, w] => some (.nx ((σ.set i (some v)).set j (some w)) p.2)
  | _ => none
/-- o[i] = e, of lists -/
def putD (o i v : D) (S : Store) : Option Store := match o, i with
  | .loc n, .int k => (match S[n]? with
    | some (Cell.lst ds) => (ixN ds.length k).map fun j => S.set n (.lst (ds.set j v))
    | _ => none)
  | _, _ => none
theorem putD_ok {K H ρ S o i v ov iv u S'} {Q : Hp → Prop} (ok : Ok K H ρ S) (ro : Rel K H ρ o ov) (ri : Rel K H ρ i iv) (rv : Rel K H ρ v u) (e : putD o i v S = some S') (k : ∀ H', Ex K H ρ H' ρ → Ok K H' ρ S' → Q H') : rSetL ov iv u H Q := by
  cases ro with
  | @loc n l hn =>
    cases ri with
    | int z =>
      have e0 : (match S[n]? with
        | some (Cell.lst ds) => (ixN ds.length z).map fun j => S.set n (.lst (ds.set j v))
        | _ => none) = some S' := e
      cases hs : S[n]? with
      | none => rw [hs] at e0; cases e0
      | some c =>
        rw [hs] at e0
        cases c with
        | ro _ => cases e0
        | dk _ => cases e0
        | dt _ => cases e0
        | lst ds =>
          obtain ⟨j, e1, e2⟩ := Option.map_eq_some_iff.mp e0
          subst e2
          obtain ⟨vs, h1, h2⟩ := ok.own hn hs
          exact ⟨l, vs, z, j, rfl, rfl, h1, by rw [← h2.length]; exact e1, k _ (Ex.wr h1) (ok.wr hn hs h1 (h2.set rv j))⟩
    | _ => cases e
  | _ => cases e
def sPut (mo mi mv : Ev) : Sv := fun σ S => (mv σ S).bind fun v => (mo σ v.2).bind fun o => (mi σ o.2).bind fun i => (putD o.1 i.1 v.1 i.2).map fun S' => .nx σ S'
theorem q_put {o i : Expr} {mo mi : Ev} {tpos : Pos} (hv : QE X e m) (ho : QE X o mo) (hi : QE X i mi) (hs : swapsWithSole [.Subscript o i tpos] e pos.line X.env = pure false := by rfl) (hw : swappedStores [.Subscript o i tpos] e X.env = pure none := by rfl)
    (h1 : (assignEach [.Subscript o i tpos] X.env).map (·.2) = [assign (.Subscript o i tpos) X.env] := by rfl)
    (ha : ∀ v, assign (.Subscript o i tpos) X.env v = (do
      let ov ← holding [v] (eval o X.env)
      let iv ← holding [v, ov] (eval i X.env)
      standAt tpos
      holding [v, ov, iv] (setItem ov iv v)
      release [v, ov, iv] []) := by intro _; rfl) : QS X (.Assign [.Subscript o i tpos] e pos) (sPut mo mi m) := ⟨PS.imp (ps_asg hv.ok (pg_sub ho.ok hi.ok set_list ha) hs hw h1) fun D σ H h => by
  obtain ⟨σd, S, ρ, f, so, ok, e, k⟩ := h
  obtain ⟨⟨v, S1⟩, e1, e⟩ := Option.bind_eq_some_iff.mp e
  obtain ⟨⟨o, S2⟩, e2, e⟩ := Option.bind_eq_some_iff.mp e
  obtain ⟨⟨i, S3⟩, e3, e⟩ := Option.bind_eq_some_iff.mp e
  obtain ⟨S4, e4, e⟩ := Option.map_eq_some_iff.mp e
  subst e
  refine ⟨σd, S, ρ, v, S1, so, ok, e1, fun vv H1 ρ1 x1 ok1 r1 => ?_⟩
  refine ⟨σd, S1, ρ1, o, S2, so.mono x1, ok1, e2, fun ov H2 ρ2 x2 ok2 r2 => ?_⟩
  refine ⟨σd, S2, ρ2, i, S3, (so.mono x1).mono x2, ok2, e3, fun iv H3 ρ3 x3 ok3 r3 => ?_⟩
  exact putD_ok ok3 (r2.mono x3) r3 ((r1.mono x2).mono x3) e4 fun H4 x4 ok4 => k σ H4 ρ3 (x1.trans (x2.trans (x3.trans x4))) ok4 (so.mono (x1.trans (x2.trans (x3.trans x4))))⟩
/-! ### x op= e -/
end
end Q2
namespace Q2
open PySem L2
section
variable {X : Cx} {a b c e : Expr} {ma mb mc m : Ev} {t : EvT} {pos p : Pos} {es : List Expr} {mr : EvA} {x : Str} {body : List Stmt} {s1 s2 : Sv}
/-! ### while -/
/-! ### what is walked -/
abbrev EvI := Sg → Store → Option (List D × Store × (Store → Prop))
structure ItOk (K : PySem.W.Frag) (J : It) (H1 : Hp) (ρ1 : List Addr) (items : List D) (G : Store → Prop) : Prop where
  go : ∀ i H ρ S d, Ex K H1 ρ1 H ρ → Ok K H ρ S → G S → items[i]? = some d → J.go i H ∧ ∀ x H', J.yld i H x H' → Ex K H ρ H' ρ ∧ Ok K H' ρ S ∧ Rel K H' ρ d x
  stop : ∀ i H ρ S, Ex K H1 ρ1 H ρ → Ok K H ρ S → G S → items.length ≤ i → J.stop i H
def TId (K : PySem.W.Frag) (it : EvI) : TI := fun σ H R => ∃ σd S ρ items S1 G, Sok K H ρ σd σ ∧ Ok K H ρ S ∧ it σd S = some (items, S1, G) ∧ ∀ J H1 ρ1, Ex K H ρ H1 ρ1 → Ok K H1 ρ1 S1 → ItOk K J H1 ρ1 items G → R J H1
structure QI (X : Cx) (tg e : Expr) (it : EvI) : Prop where
  ok : PI X tg e (TId X.K it)
theorem PI.imp {X : Cx} {tg e : Expr} {t t' : TI} (h : PI X tg e t) (i : ∀ σ H R, t' σ H R → t σ H R) : PI X tg e t' := fun pins s σ H R I hw => h pins s σ H R I (i σ H R hw)
/-- a list or a tuple -/
def iSeq (K : PySem.W.Frag) (tl : TE) : TI := fun σ H R => tl σ H fun x H1 => ∃ a, x = .ref a ∧ (((∃ xs, SqL K H1 a xs) ∧ R (Itl K a) H1) ∨ ((∃ xs, L2.SqT K H1 a xs) ∧ R (Itt K a) H1))
theorem pi_seq {l tg : Expr} {tl : TE} (hl : PE X l tl) : PI X tg l (iSeq X.K tl) := by
  intro pins s σ H R I h
  refine thn (hl pins s σ H _ I h) fun v s1 ⟨x, H1, I1, r1, q1⟩ => ?_
  obtain ⟨a, e, q⟩ := q1
  subst e
  cases r1
  rcases q with ⟨⟨xs, hq⟩, q⟩ | ⟨⟨xs, hq⟩, q⟩
  · obtain ⟨its, rv, p, hz⟩ := I1.list hq
    refine wpAny_pyIter_list p.isList ?_
    exact pi_one (tk := s1.toks) I1 _ (turn_list a _) ⟨_, Heap.get?_push_size _ rfl, rfl, rfl⟩ q
  · obtain ⟨its, rv, p, hz⟩ := I1.tuple hq
    refine wpAny_pyIter_tuple (show s1.heap.IsTuple a its.toArray from p) ?_
    exact pi_one (tk := s1.toks) I1 _ (turn_tuple a _) ⟨_, Heap.get?_push_size _ rfl, rfl, rfl⟩ q
/-- the guard of a walk: a list stays -/
def grd (d : D) (ds : List D) : Store → Prop := fun S => match d with
  | .loc n => S[n]? = some (Cell.lst ds) ∨ S[n]? = some (Cell.ro ds)
  | _ => True
def evSeq (m : Ev) : EvI := fun σ S => (m σ S).bind fun p => (itemsD p.1 p.2).map fun ds => (ds, p.2, grd p.1 ds)
theorem it_list {K H1 ρ1} {n : Nat} {l : Addr} {ds : List D} (hn : ρ1[n]? = some l) : ItOk K (Itl K l) H1 ρ1 ds (grd (.loc n) ds) := by
  refine ⟨fun i H ρ S d x ok g hd => ?_, fun i H ρ S x ok g hi => ?_⟩
  · obtain ⟨vs, h1, h2⟩ := ok.list (x.pre n l hn) g
    obtain ⟨v, h3, h4⟩ := h2.get hd
    refine ⟨⟨vs, v, h1, h3⟩, fun w H' y => ?_⟩
    obtain ⟨e, y⟩ := y
    subst e
    have := y vs h1
    rw [h3] at this; cases this
    exact ⟨.refl, ok, h4⟩
  · obtain ⟨vs, h1, h2⟩ := ok.list (x.pre n l hn) g
    exact ⟨vs, h1, by rw [← h2.length]; exact hi⟩
theorem it_tup {K H1 ρ1} {l : Addr} {ds : List D} {vs : List V} {G : Store → Prop} (h : SqT K H1 l vs) (r : RelL K H1 ρ1 ds vs) : ItOk K (Itt K l) H1 ρ1 ds G := by
  refine ⟨fun i H ρ S d x ok g hd => ?_, fun i H ρ S x ok g hi => ?_⟩
  · obtain ⟨v, h3, h4⟩ := r.get hd
    refine ⟨⟨vs, v, (x.tup _ _ h).any, h3⟩, fun w H' y => ?_⟩
    obtain ⟨e, y⟩ := y
    subst e
    have := y vs (x.tup _ _ h).any
    rw [h3] at this; cases this
    exact ⟨.refl, ok, h4.mono x⟩
  · exact ⟨vs, (x.tup _ _ h).any, by rw [← r.length]; exact hi⟩
theorem q_iseq {tg : Expr} (he : QE X e m) : QI X tg e (evSeq m) := ⟨PI.imp (pi_seq he.ok) fun σ H R h => by
  obtain ⟨σd, S, ρ, items, S1, G, so, ok, e, k⟩ := h
  obtain ⟨⟨d, S2⟩, e1, e⟩ := Option.bind_eq_some_iff.mp e
  obtain ⟨ds, e2, e⟩ := Option.map_eq_some_iff.mp e
  cases e
  refine ⟨σd, S, ρ, d, S2, so, ok, e1, fun v H1 ρ1 x1 ok1 r1 => ?_⟩
  cases r1 with
  | tup h rl => cases e2; exact ⟨_, rfl, .inr ⟨⟨_, h.any⟩, k _ H1 ρ1 x1 ok1 (it_tup h rl)⟩⟩
  | @loc n l hn =>
    obtain ⟨a, vs, e3, _, hl⟩ := lst_ok (K := X.K) ok1 (Rel.loc hn) (show lstD (.loc n) S2 = some items from e2)
    cases e3
    exact ⟨l, rfl, .inl ⟨⟨vs, hl⟩, k _ H1 ρ1 x1 ok1 (it_list hn)⟩⟩
  | _ => cases e2⟩
/-- ranges -/
def rangeD (lo : Int) (n : Nat) : List D := (List.range n).map fun (i : Nat) => D.int (lo + (i : Int))
theorem rangeD_get {lo : Int} {n i : Nat} {d : D} (h : (rangeD lo n)[i]? = some d) : i < n ∧ d = .int (lo + i) := by
  unfold rangeD at h
  rw [List.getElem?_map] at h
  obtain ⟨j, h1, h2⟩ := Option.map_eq_some_iff.mp h
  have hl := (List.getElem?_eq_some_iff.mp h1).1
  rw [List.length_range] at hl
  rw [List.getElem?_range hl] at h1
  cases h1
  exact ⟨hl, h2.symm⟩
theorem rangeD_len {lo : Int} {n : Nat} : (rangeD lo n).length = n := by unfold rangeD; rw [List.length_map, List.length_range]
theorem it_range {K H1 ρ1} {lo : Int} {n : Nat} {G : Store → Prop} : ItOk K (Itr lo n) H1 ρ1 (rangeD lo n) G := by
  refine ⟨fun i H ρ S d x ok g hd => ?_, fun i H ρ S x ok g hi => ?_⟩
  · obtain ⟨h1, h2⟩ := rangeD_get hd
    subst h2
    refine ⟨h1, fun w H' y => ?_⟩
    obtain ⟨e, y⟩ := y
    subst e y
    exact ⟨.refl, ok, .int _⟩
  · rw [rangeD_len] at hi; exact hi
def Small (i : Int) : Prop := -(2 ^ 62) ≤ i ∧ i < 2 ^ 62
instance (i : Int) : Decidable (Small i) := by unfold Small; infer_instance
def evRng (mr : EvA) : EvI := fun σ S => (mr σ S).bind fun p => match p.1 with
  | [.int j] => if Small j then some (rangeD 0 j.toNat, p.2, fun _ => True) else none
  | [.int i, .int j] => if Small i ∧ Small j then some (rangeD i (j - i).toNat, p.2, fun _ => True) else none
  | _ => none
theorem q_irange1 {tg : Expr} (hm : X.mg "range" = none) (ha : QA X [a] mr) (hg : Gl X "range" := by rfl) (hs : starEach [a] X.env = [(false, eval a X.env)] := by rfl) (h1 : ∀ σ S ds S', mr σ S = some (ds, S') → ds.length = 1) : QI X tg (.Call (.Name "range" p) [a] [] pos) (evRng mr) := ⟨PI.imp (pi_range1 hg hm ha.ok hs) fun σ H R h => by
  obtain ⟨σd, S, ρ, items, S1, G, so, ok, e, k⟩ := h
  obtain ⟨⟨ds, S2⟩, e1, e⟩ := Option.bind_eq_some_iff.mp e
  have hl := h1 _ _ _ _ e1
  match ds, hl, e with
  | [d], _, e =>
    cases d with
    | int j =>
      by_cases hc : Small j
      · have e' := (if_pos hc).symm.trans e
        cases e'
        refine ⟨σd, S, ρ, _, _, so, ok, e1, fun vs H1 ρ1 x1 ok1 r1 => ?_⟩
        obtain ⟨v, rfl, r⟩ := r1.one_inv
        cases r
        exact ⟨j, rfl, hc.1, hc.2, k _ H1 ρ1 x1 ok1 it_range⟩
      · have e' := (if_neg hc).symm.trans e
        cases e'
    | _ => cases e⟩
theorem q_irange2 {tg : Expr} (hm : X.mg "range" = none) (ha : QA X [a, b] mr) (hg : Gl X "range" := by rfl) (hs : starEach [a, b] X.env = [(false, eval a X.env), (false, eval b X.env)] := by rfl) (hs2 : starEach [b] X.env = [(false, eval b X.env)] := by rfl) (h1 : ∀ σ S ds S', mr σ S = some (ds, S') → ds.length = 2) : QI X tg (.Call (.Name "range" p) [a, b] [] pos) (evRng mr) := ⟨PI.imp (pi_range2 hg hm ha.ok hs hs2) fun σ H R h => by
  obtain ⟨σd, S, ρ, items, S1, G, so, ok, e, k⟩ := h
  obtain ⟨⟨ds, S2⟩, e1, e⟩ := Option.bind_eq_some_iff.mp e
  have hl := h1 _ _ _ _ e1
  match ds, hl, e with
  | [d, d2], _, e =>
    cases d with
    | int i =>
      cases d2 with
      | int j =>
        by_cases hc : Small i ∧ Small j
        · have e' := (if_pos hc).symm.trans e
          cases e'
          refine ⟨σd, S, ρ, _, _, so, ok, e1, fun vs H1 ρ1 x1 ok1 r1 => ?_⟩
          obtain ⟨v, w, rfl, r, r2⟩ := r1.two_inv
          cases r; cases r2
          exact ⟨i, j, rfl, ⟨hc.1.1, hc.1.2, hc.2.1, hc.2.2⟩, k _ H1 ρ1 x1 ok1 it_range⟩
        · have e' := (if_neg hc).symm.trans e
          cases e'
      | _ => cases e
    | _ => cases e⟩
theorem len1 {m : Ev} : ∀ σ S ds S', eaCons m eaNil σ S = some (ds, S') → ds.length = 1 := fun σ S ds S' e => by
  obtain ⟨p, e1, e⟩ := Option.bind_eq_some_iff.mp e
  cases e
  rfl
theorem len2 {m m2 : Ev} : ∀ σ S ds S', eaCons m (eaCons m2 eaNil) σ S = some (ds, S') → ds.length = 2 := fun σ S ds S' e => by
  obtain ⟨p, e1, e⟩ := Option.bind_eq_some_iff.mp e
  obtain ⟨q, e2, e⟩ := Option.map_eq_some_iff.mp e
  obtain ⟨r, e3, e2⟩ := Option.bind_eq_some_iff.mp e2
  cases e2
  cases e
  rfl

/-! ### for -/
open Classical in
noncomputable def forL (G : Store → Prop) (tg : Tg) (s1 : Sv) : List D → Sg → Store → Option Fl
  | [], σ, S => if G S then some (.nx σ S) else none
  | d :: ds, σ, S => if G S then (setD tg d σ).bind fun σ1 => (s1 σ1 S).bind fun f => match f with
    | .nx σ' S' => forL G tg s1 ds σ' S'
    | .ct σ' S' => forL G tg s1 ds σ' S'
    | .bk σ' S' => some (.nx σ' S')
    | .rt d S' => some (.rt d S') else none
noncomputable def sFor (it : EvI) (tg : Tg) (s1 : Sv) : Sv := fun σ S => (it σ S).bind fun p => forL p.2.2 tg s1 p.1 σ p.2.1
theorem q_for {tgE iter : Expr} {it : EvI} {tg : Tg} (hp : PassesOwn (model X.prog X.w) X.A X.env X.xe) (hc : X.calm = true) (hi : QI X tgE iter it) (hg : QG X tgE tg) (hb : QSs X body s1)
    (hs : ∀ x, foldedSetIterable iter X.env x = pure x := by intro _; rfl) : QS X (.For tgE iter body [] pos) (sFor it tg s1) := ⟨PS.imp (ps_for hp hc hi.ok hg.ok hb.ok hs) fun D σ H h => by
  obtain ⟨σd, S, ρ, f, so, ok, e, k⟩ := h
  obtain ⟨⟨items, S1, G⟩, e1, e⟩ := Option.bind_eq_some_iff.mp e
  refine ⟨σd, S, ρ, items, S1, G, so, ok, e1, fun J H1 ρ1 x1 ok1 IO => ?_⟩
  refine ⟨fun i m σ2 H2 => m = items.length - i ∧ i ≤ items.length ∧ ∃ σd2 S2 ρ2, Ex X.K H1 ρ1 H2 ρ2 ∧ Sok X.K H2 ρ2 σd2 σ2 ∧ Ok X.K H2 ρ2 S2 ∧ forL G tg s1 (items.drop i) σd2 S2 = some f,
    ⟨items.length, by simp, Nat.zero_le _, σd, S1, ρ1, .refl, so.mono x1, ok1, by rw [List.drop_zero]; exact e⟩, ?_⟩
  rintro i mm σ2 H2 ⟨rfl, hi, σd2, S2, ρ2, x2, so2, ok2, e2⟩
  by_cases hlt : i < items.length
  · rw [List.drop_eq_getElem_cons hlt] at e2
    unfold forL at e2
    by_cases hG : G S2
    · rw [if_pos hG] at e2
      obtain ⟨σ3, e3, e2⟩ := Option.bind_eq_some_iff.mp e2
      obtain ⟨g, e4, e2⟩ := Option.bind_eq_some_iff.mp e2
      obtain ⟨go, yl⟩ := IO.go i H2 ρ2 S2 items[i] x2 ok2 hG (by simp [hlt])
      refine .inr ⟨go, fun σ' H' => ∃ m', m' < items.length - i ∧ (m' = items.length - (i + 1) ∧ i + 1 ≤ items.length ∧ ∃ σd2 S2 ρ2, Ex X.K H1 ρ1 H' ρ2 ∧ Sok X.K H' ρ2 σd2 σ' ∧ Ok X.K H' ρ2 S2 ∧ forL G tg s1 (items.drop (i + 1)) σd2 S2 = some f), fun σ' H' h => h, fun v H3 y => ?_⟩
      obtain ⟨x3, ok3, r3⟩ := yl v H3 y
      refine gT_ok e3 r3 (so2.mono x3) fun σ4 so4 _ => ?_
      refine ⟨σ3, S2, ρ2, g, so4, ok3, e4, ?_⟩
      have x13 := x2.trans x3
      have fin : ∀ {σ5 : Sg} {S5 : Store}, forL G tg s1 (items.drop (i + 1)) σ5 S5 = some f → ∀ σ' H' ρ', Ex X.K H3 ρ2 H' ρ' → Ok X.K H' ρ' S5 → Sok X.K H' ρ' σ5 σ' → ∃ m', m' < items.length - i ∧ (m' = items.length - (i + 1) ∧ i + 1 ≤ items.length ∧ ∃ σd2 S2 ρ2, Ex X.K H1 ρ1 H' ρ2 ∧ Sok X.K H' ρ2 σd2 σ' ∧ Ok X.K H' ρ2 S2 ∧ forL G tg s1 (items.drop (i + 1)) σd2 S2 = some f) := fun {σ5 S5} e5 σ' H' ρ' y o s =>
        ⟨items.length - (i + 1), by omega, rfl, hlt, σ5, S5, ρ', x13.trans y, s, o, e5⟩
      cases g with
      | nx σ5 S5 => exact fin e2
      | ct σ5 S5 => exact fin e2
      | bk σ5 S5 => cases e2; exact fun σ' H' ρ' y o s => k σ' H' ρ' (x1.trans (x13.trans y)) o s
      | rt d S5 => cases e2; exact fun v H' ρ' y o s => k v H' ρ' (x1.trans (x13.trans y)) o s
    · rw [if_neg hG] at e2; cases e2
  · have hi' : items.length ≤ i := by omega
    rw [List.drop_eq_nil_of_le hi'] at e2
    unfold forL at e2
    by_cases hG : G S2
    · rw [if_pos hG] at e2
      cases e2
      exact .inl ⟨IO.stop i H2 ρ2 S2 x2 ok2 hG hi', k σ2 H2 ρ2 (x1.trans x2) ok2 so2⟩
    · rw [if_neg hG] at e2; cases e2⟩

/-! ### [e for x in xs if ..] -/
def wipeD (σ : Sg) : List Nat → Sg
  | [] => σ
  | v :: vs => (wipeD σ vs).set v none
theorem Sok.unset {K H ρ σd σ} (s : Sok K H ρ σd σ) (i : Nat) : Sok K H ρ (σd.set i none) (σ.set i none) := by
  refine ⟨by simp [s.len], fun j e h => ?_⟩
  by_cases hj : i = j
  · subst hj
    by_cases hi : i < σd.length
    · rw [List.getElem?_set_self hi] at h; cases h
    · rw [List.getElem?_eq_none (by simpa using hi)] at h; cases h
  · rw [List.getElem?_set_ne hj] at h
    obtain ⟨u, h1, h2⟩ := s.get j e h
    exact ⟨u, by rw [List.getElem?_set_ne hj]; exact h1, h2⟩
theorem Sok.wipe {K H ρ σd σ} (s : Sok K H ρ σd σ) : ∀ vs : List Nat, Sok K H ρ (wipeD σd vs) (L2.wipe σ vs)
  | [] => s
  | v :: vs => (Sok.wipe s vs).unset v
open Classical in
noncomputable def lcL (G : Store → Prop) (tg : Tg) (tt : EvT) (te : Ev) (σ : Sg) (n : Nat) : List D → Store → Option Store
  | [], S => if G S then some S else none
  | d :: ds, S => if G S then (setD tg d σ).bind fun σ2 => (tt σ2 S).bind fun b => if b.1 = true then (te σ2 b.2).bind fun y => (match y.2[n]? with
      | some (Cell.lst acc) => if acc.length < 100000 then lcL G tg tt te σ n ds (y.2.set n (.lst (acc ++ [y.1]))) else none
      | _ => none) else lcL G tg tt te σ n ds b.2 else none
noncomputable def evLC (it : EvI) (tg : Tg) (tt : EvT) (te : Ev) (vs : List Nat) : Ev := fun σ S => (it σ S).bind fun p => (lcL p.2.2 tg tt te (wipeD σ vs) p.2.1.length p.1 (p.2.1 ++ [.lst []])).map fun S' => (.loc p.2.1.length, S')
def evYes : EvT := fun _ S => some (true, S)
structure QTs (X : Cx) (ifs : List Expr) (t : EvT) : Prop where
  ok : PTs X ifs (TTd X.K t)
theorem q_ifs0 : QTs X [] evYes := ⟨fun pins s σ H Q I h => pts_nil pins s σ H Q I (by
  obtain ⟨σd, S, ρ, b, S', so, ok, e, k⟩ := h
  cases e
  exact k H ρ .refl ok)⟩
theorem wipe_wipe (σ : L2.St) : ∀ vs : List Nat, L2.wipe (L2.wipe σ vs) vs = L2.wipe σ vs := by
  have key : ∀ (vs ws : List Nat) (σ : L2.St), (∀ i ∈ ws, i ∈ vs) → L2.wipe (L2.wipe σ ws) vs = L2.wipe σ vs := by
    intro vs ws
    induction ws with
    | nil => intro σ _; rfl
    | cons w ws ih =>
      intro σ h
      show L2.wipe ((L2.wipe σ ws).set w none) vs = _
      rw [wipe_in (h w List.mem_cons_self)]
      exact ih σ fun i hi => h i (List.mem_cons_of_mem _ hi)
  exact fun vs => key vs vs σ fun _ h => h
theorem t_lc {K : PySem.W.Frag} {it : EvI} {tg : Tg} {tt : EvT} {te : Ev} {vs : List Nat} (hv : ∀ i ∈ tg.ix, i ∈ vs) : ∀ (σ : L2.St) (H : Hp) (Q : VK), T K (evLC it tg tt te vs) σ H Q → tLc (TId K it) (gT K tg) (TTd K tt) (T K te) vs σ H Q := fun σ H Q h => by
  obtain ⟨σd, S, ρ, d, S', so, ok, e, k⟩ := h
  obtain ⟨⟨items, S1, G⟩, e1, e⟩ := Option.bind_eq_some_iff.mp e
  obtain ⟨S2, e2, e⟩ := Option.map_eq_some_iff.mp e
  cases e
  refine ⟨σd, S, ρ, items, S1, G, so, ok, e1, fun J H1 ρ1 x1 ok1 IO => ?_⟩
  intro L hL
  obtain ⟨z1, z2, z3⟩ := ok1.lastL hL (ds := []) (vs := []) .nil
  have hLρ : (ρ1 ++ [L])[S1.length]? = some L := by
    cases z3 with
    | loc h => exact h
  refine ⟨fun i m H3 => m = items.length - i ∧ i ≤ items.length ∧ ∃ S3 ρ3, Ex K (upd H1 L (.lst [])) (ρ1 ++ [L]) H3 ρ3 ∧ Ok K H3 ρ3 S3 ∧ lcL G tg tt te (wipeD σd vs) S1.length (items.drop i) S3 = some S',
    ⟨items.length, by simp, Nat.zero_le _, _, _, .refl, z2, by rw [List.drop_zero]; exact e2⟩, ?_⟩
  rintro i mm H3 ⟨rfl, hi, S3, ρ3, x3, ok3, e3⟩
  have soW : Sok K H3 ρ3 (wipeD σd vs) (L2.wipe σ vs) := (so.mono (x1.trans (z1.trans x3))).wipe vs
  by_cases hlt : i < items.length
  · rw [List.drop_eq_getElem_cons hlt] at e3
    unfold lcL at e3
    by_cases hG : G S3
    · rw [if_pos hG] at e3
      obtain ⟨σ4, f1, e3⟩ := Option.bind_eq_some_iff.mp e3
      obtain ⟨⟨b, S4⟩, f2, e3⟩ := Option.bind_eq_some_iff.mp e3
      obtain ⟨go, yl⟩ := IO.go i H3 ρ3 S3 items[i] (z1.trans x3) ok3 hG (by simp [hlt])
      refine .inr ⟨go, fun H' => ∃ m', m' < items.length - i ∧ (m' = items.length - (i + 1) ∧ i + 1 ≤ items.length ∧ ∃ S3 ρ3, Ex K (upd H1 L (.lst [])) (ρ1 ++ [L]) H' ρ3 ∧ Ok K H' ρ3 S3 ∧ lcL G tg tt te (wipeD σd vs) S1.length (items.drop (i + 1)) S3 = some S'), fun H' h => h, fun v H4 y => ?_⟩
      obtain ⟨x4, ok4, r4⟩ := yl v H4 y
      refine gT_ok f1 r4 (soW.mono x4) fun σ5 so5 hw => ⟨?_, ?_⟩
      · rw [hw vs hv, wipe_wipe]
      refine ⟨σ4, S3, ρ3, b, S4, so5, ok4, f2, fun H5 ρ5 x5 ok5 => ?_⟩
      have x35 : Ex K (upd H1 L (.lst [])) (ρ1 ++ [L]) H5 ρ5 := x3.trans (x4.trans x5)
      cases b with
      | true =>
        dsimp only
        rw [if_pos rfl] at e3 ⊢
        obtain ⟨⟨yd, S5⟩, f3, e3⟩ := Option.bind_eq_some_iff.mp e3
        refine ⟨σ4, S4, ρ5, yd, S5, so5.mono x5, ok5, f3, fun yv H6 ρ6 x6 ok6 r6 => ?_⟩
        have hn : ρ6[S1.length]? = some L := (x35.trans x6).pre _ _ hLρ
        have e4 : (match S5[S1.length]? with
          | some (Cell.lst acc) => if acc.length < 100000 then lcL G tg tt te (wipeD σd vs) S1.length (items.drop (i + 1)) (S5.set S1.length (.lst (acc ++ [yd]))) else none
          | _ => none) = some S' := e3
        cases hs : S5[S1.length]? with
        | none => rw [hs] at e4; cases e4
        | some c =>
          rw [hs] at e4
          cases c with
          | ro _ => cases e4
          | dk _ => cases e4
          | dt _ => cases e4
          | lst acc =>
            by_cases hc : acc.length < 100000
            · have e5 := (if_pos hc).symm.trans e4
              obtain ⟨us, g1, g2⟩ := ok6.own hn hs
              refine ⟨us, g1, by rw [← g2.length]; exact Nat.lt_trans hc (by decide), items.length - (i + 1), by omega, rfl, hlt, _, ρ6, (x35.trans x6).trans (Ex.wr g1), ok6.wr hn hs g1 (g2.append (.cons r6 .nil)), e5⟩
            · have e5 := (if_neg hc).symm.trans e4
              cases e5
      | false =>
        dsimp only
        rw [if_neg Bool.false_ne_true] at e3 ⊢
        exact ⟨items.length - (i + 1), by omega, rfl, hlt, S4, ρ5, x35, ok5, e3⟩
    · rw [if_neg hG] at e3; cases e3
  · have hi' : items.length ≤ i := by omega
    rw [List.drop_eq_nil_of_le hi'] at e3
    unfold lcL at e3
    by_cases hG : G S3
    · rw [if_pos hG] at e3
      cases e3
      refine .inl ⟨IO.stop i H3 ρ3 _ (z1.trans x3) ok3 hG hi', ?_⟩
      exact k _ H3 ρ3 (x1.trans (z1.trans x3)) ok3 (.loc (x3.pre _ _ hLρ))
    · rw [if_neg hG] at e3; cases e3
theorem q_lc {elt tgE iter : Expr} {ifs : List Expr} {scope : Scope} (own : List (Str × Nat)) {it : EvI} {tg : Tg} {tt : EvT} {te : Ev} (hc : X.calm = true) (hN : X.N.Nodup) (hi : QI X tgE iter it) (ok : BlkOk X.N X.env.scope scope own)
    (hg : ∀ (s : Shared) (H : Hp) (C : Addr) (cl : List (Str × Addr)) (fp : List Addr), QG (X.blk s H scope (compEnvC scope cl C X.env) fp) tgE tg) (ht : ∀ (s : Shared) (H : Hp) (C : Addr) (cl : List (Str × Addr)) (fp : List Addr), QTs (X.blk s H scope (compEnvC scope cl C X.env) fp) ifs tt)
    (he : ∀ (s : Shared) (H : Hp) (C : Addr) (cl : List (Str × Addr)) (fp : List Addr), QE (X.blk s H scope (compEnvC scope cl C X.env) fp) elt te) (hv : ∀ i ∈ tg.ix, i ∈ own.map (·.2)) (hs : ∀ x, foldedSetIterable iter X.env x = pure x := by intro _; rfl) :
    QE X (.ListComp elt [⟨tgE, iter, ifs, 0⟩] scope pos) (evLC it tg tt te (own.map (·.2))) :=
  ⟨PE.imp (pe_lc hc hN hi.ok ok (fun s H C cl fp => (hg s H C cl fp).ok) (fun s H C cl fp => (ht s H C cl fp).ok) (fun s H C cl fp => (he s H C cl fp).ok) hs) (t_lc hv)⟩
theorem q_setLc (i : Nat) {y : Str} {py spos : Pos} {elt tgE iter : Expr} {ifs : List Expr} {scope : Scope} (own : List (Str × Nat)) {it : EvI} {tg : Tg} {tt : EvT} {te : Ev} (hc : X.calm = true) (hN : X.N.Nodup) (hy : X.N[i]? = some y) (hyl : X.env.scope.names.lookup y = some .local)
    (hsw : swapsWith (.ListComp elt [⟨tgE, iter, ifs, 0⟩] scope pos) (some (.Name y py)) spos.line X.env = pure true) (hi : QI X tgE iter it) (ok : BlkOk X.N X.env.scope scope own)
    (hg : ∀ (s : Shared) (H : Hp) (C : Addr) (cl : List (Str × Addr)) (fp : List Addr), QG (X.blk s H scope (compEnvC scope cl C X.env) fp) tgE tg) (ht : ∀ (s : Shared) (H : Hp) (C : Addr) (cl : List (Str × Addr)) (fp : List Addr), QTs (X.blk s H scope (compEnvC scope cl C X.env) fp) ifs tt)
    (he : ∀ (s : Shared) (H : Hp) (C : Addr) (cl : List (Str × Addr)) (fp : List Addr), QE (X.blk s H scope (compEnvC scope cl C X.env) fp) elt te) (hv : ∀ i ∈ tg.ix, i ∈ own.map (·.2)) (hs : ∀ x, foldedSetIterable iter X.env x = pure x := by intro _; rfl) :
    QS X (.Assign [.Name y py] (.ListComp elt [⟨tgE, iter, ifs, 0⟩] scope pos) spos) (sSet i (evLC it tg tt te (own.map (·.2)))) :=
  ⟨PS.imp (ps_setLc hc hN hy hyl hsw hi.ok ok (fun s H C cl fp => (hg s H C cl fp).ok) (fun s H C cl fp => (ht s H C cl fp).ok) (fun s H C cl fp => (he s H C cl fp).ok) hs) (t_set (t_lc hv))⟩
end
end Q2
namespace Q2
open PySem L2
/-! ### a def of the text keeps its function -/
def startD (N : List Str) (ds : List D) : Sg := ds.map some ++ List.replicate (N.length - ds.length) none
theorem sok_start {K H ρ} {N : List Str} {ds : List D} {vs : List V} (r : RelL K H ρ ds vs) : Sok K H ρ (startD N ds) (L2.start N vs) := by
  have hl := r.length
  refine ⟨by unfold startD L2.start; simp [hl], fun i d h => ?_⟩
  unfold startD at h
  by_cases hi : i < ds.length
  · rw [List.getElem?_append_left (by simpa using hi), List.getElem?_map] at h
    obtain ⟨d', h1, h2⟩ := Option.map_eq_some_iff.mp h
    cases h2
    obtain ⟨v, h3, h4⟩ := r.get h1
    refine ⟨v, ?_, h4⟩
    unfold L2.start
    rw [List.getElem?_append_left (by simpa [← hl] using hi), List.getElem?_map, h3]
    rfl
  · rw [List.getElem?_append_right (by simpa using hi), List.getElem?_replicate] at h
    split at h <;> cases h
def Sem (mb : Sv) (N : List Str) (ds : List D) (S : Store) (d : D) (S' : Store) : Prop :=
  ∃ fl d0 S0, mb (startD N ds) S = some fl ∧ (fl = .rt d0 S0 ∨ ∃ σ, fl = .nx σ S0 ∧ d0 = .non) ∧ Gc S d0 S0 d S'
theorem Sem.rt {mb : Sv} {N : List Str} {ds : List D} {S : Store} {d : D} {S' : Store} (h : mb (startD N ds) S = some (.rt d S')) : Sem mb N ds S d S' := ⟨_, d, S', h, .inl rfl, .refl⟩
theorem Sem.drop {mb : Sv} {N : List Str} {ds : List D} {S : Store} {d : D} {S' : Store} (h : mb (startD N ds) S = some (.rt d S')) (hd : d.cl = true) (k : Keeps S S') : Sem mb N ds S d (S'.take S.length) := ⟨_, d, S', h, .inl rfl, .drop hd k⟩
section
variable {P : Program} {w : World} {K : PySem.W.Frag} {mg : Str → Option Value} {base : Heap}
end
/-! ### the law -/
open Classical in
noncomputable def fLaw : Fn := fun ds S => if ∃ ns : List Int, ds = [.loc 0] ∧ S = [.ro (ns.map D.int)] ∧ ns.length ≤ 63 then some (.bl true, S) else none
theorem fLaw_some {ds S d S'} (e : fLaw ds S = some (d, S')) : ∃ ns : List Int, ds = [.loc 0] ∧ S = [.ro (ns.map D.int)] ∧ ns.length ≤ 63 ∧ d = .bl true ∧ S' = S := by
  unfold fLaw at e
  split at e
  · rename_i h
    obtain ⟨ns, h1, h2, h3⟩ := h
    cases e
    exact ⟨ns, h1, h2, h3, rfl, rfl⟩
  · cases e
theorem law_sp {K : PySem.W.Frag} {H : Hp} {a : Addr} {ns : List Int} (hl : ns.length ≤ 63) (hO : ∀ xs, H a ≠ some (.lst xs)) (hT : ∀ P, Tab K P → ∃ ps, H P = some (.tbl ps)) (hS : SqL K H a (ns.map V.int)) : spF K fLaw [.ref a] H (fun v _ => v = .bl true) fun _ _ _ => False := by
  have e : fLaw [.loc 0] [.ro (ns.map D.int)] = some (.bl true, [.ro (ns.map D.int)]) := if_pos ⟨ns, rfl, rfl, hl⟩
  refine ⟨[.loc 0], [.ro (ns.map D.int)], [a], .bl true, _, .cons (.loc rfl) .nil, ⟨rfl, fun n m b ds es hnm e1 e2 e3 e4 => ?_, fun n b c e1 e2 => ?_, hT, fun n m b c c' hnm e1 e2 e3 e4 d1 d2 => ?_⟩, e, fun v H' ρ' _ _ r => ?_⟩
  · cases n with
    | zero => cases e3
    | succ n => cases e3
  · cases n with
    | succ n => cases e2
    | zero =>
      cases e1; cases e2
      refine ⟨ns.map V.int, .ints ns, ?_⟩
      rcases hS with (h | ⟨o, h⟩) | h
      · exact absurd h (hO _)
      · exact .inl ⟨o, h⟩
      · exact .inr h
  · cases n with
    | succ n => cases e3
    | zero => cases e3; cases d1
  · cases r; rfl
section
variable {X : Cx} {a b c e o : Expr} {ma mb mc m mo : Ev} {t : EvT} {pos p apos cpos : Pos} {es : List Expr} {mr : EvA} {x : Str}
/-! ### methods of lists -/
/-- no dict -/
def notD (d : D) (S : Store) : Bool := match d with
  | .loc n => (match S[n]? with
    | some c => !c.isD
    | none => true)
  | _ => true
theorem notD_lst {S : Store} {n : Nat} {xs : List D} (h : S[n]? = some (Cell.lst xs)) : notD (.loc n) S = true := by
  show (match S[n]? with
    | some c => !c.isD
    | none => true) = true
  rw [h]; rfl
theorem Ok.any {K H ρ S} {n : Nat} {a : Addr} (h : Ok K H ρ S) (hn : ρ[n]? = some a) (hd : notD (.loc n) S = true) : ∃ vs, SqL K H a vs ∧ ∃ ds, RelL K H ρ ds vs := by
  have hd : (match S[n]? with
    | some c => !c.isD
    | none => true) = true := hd
  have hl : n < S.length := by rw [← h.len]; exact (List.getElem?_eq_some_iff.mp hn).1
  cases hs : S[n]? with
  | none => rw [List.getElem?_eq_none_iff] at hs; omega
  | some c =>
    cases c with
    | lst ds => obtain ⟨vs, h1, h2⟩ := h.list hn (.inl hs); exact ⟨vs, h1, ds, h2⟩
    | ro ds => obtain ⟨vs, h1, h2⟩ := h.list hn (.inr hs); exact ⟨vs, h1, ds, h2⟩
    | dk _ => rw [hs] at hd; cases hd
    | dt _ => rw [hs] at hd; cases hd
def evM (F : D → List D → Store → Option (D × Store)) (mo : Ev) (mr : EvA) : Ev := fun σ S => (mo σ S).bind fun p => (mr σ p.2).bind fun q => if notD p.1 p.2 = true then F p.1 q.1 q.2 else none
theorem evM_nd {F : D → List D → Store → Option (D × Store)} {b : Bool} {o : D} {ds : List D} {S2 : Store} {r : D × Store} (e : (if b = true then F o ds S2 else none) = some r) : b = true ∧ F o ds S2 = some r := by
  cases b with
  | true => exact ⟨rfl, (if_pos rfl).symm.trans e⟩
  | false => cases (if_neg Bool.false_ne_true).symm.trans e
def fAppend : D → List D → Store → Option (D × Store) := fun o ds S => match o, ds with
  | .loc n, [d] => (match S[n]? with
    | some (Cell.lst xs) => if xs.length < 100000 then some (.non, S.set n (.lst (xs ++ [d]))) else none
    | _ => none)
  | _, _ => none
theorem q_append (ho : QE X o mo) (ha : QA X [e] mr) (hbase : attributeBase o "append" X.env (eval o X.env) = eval o X.env := by rfl)
    (hfew : ((backTo cpos (starEach [e] X.env)).all (fun x => !x.1) && (backToKw cpos (keywordEach [] X.env)).all (fun x => x.1.isSome)
      && decide ([e].length + ([] : List Keyword).length + (if ([] : List Keyword).isEmpty then 0 else 1) < 30)) = true := by rfl)
    (hline : (apos.endLine == cpos.line) = true := by rfl) (hs : starEach [e] X.env = (false, eval e X.env) :: starEach [] X.env := by rfl) (hplain : (backTo cpos (starEach [] X.env)).any (·.1) = false := by rfl) :
    QE X (.Call (.Attribute o "append" apos) [e] [] cpos) (evM fAppend mo mr) := ⟨PE.imp (pe_bm PySem.F.plainAttrs_list PySem.F.slot_list_append PySem.F.type_list_append mt_append ho.ok ha.ok hbase hfew hline hs hplain) fun σ H Q h => by
  obtain ⟨σd, S, ρ, d, S', so, ok, e, k⟩ := h
  obtain ⟨⟨l, S1⟩, e1, e⟩ := Option.bind_eq_some_iff.mp e
  obtain ⟨⟨ds, S2⟩, e2, e⟩ := Option.bind_eq_some_iff.mp e
  obtain ⟨nd, e⟩ := evM_nd e
  refine ⟨σd, S, ρ, l, S1, so, ok, e1, fun lv H1 ρ1 x1 ok1 r1 => ?_⟩
  cases r1 with
  | @loc n la hn =>
    refine ⟨?_, σd, S1, ρ1, ds, S2, so.mono x1, ok1, e2, fun vs H2 ρ2 x2 ok2 r2 => ?_⟩
    · obtain ⟨vs, h1, _⟩ := ok1.any hn nd
      exact .inl ⟨rfl, vs, h1⟩
    · match ds, r2, e with
      | [dd], r2, e =>
        obtain ⟨v, rfl, r3⟩ := RelL.one_inv r2
        have e0 : (match S2[n]? with
          | some (Cell.lst xs) => if xs.length < 100000 then some (.non, S2.set n (.lst (xs ++ [dd]))) else none
          | _ => none) = some (d, S') := e
        cases hs : S2[n]? with
        | none => rw [hs] at e0; cases e0
        | some c =>
          rw [hs] at e0
          cases c with
          | ro _ => cases e0
          | dk _ => cases e0
          | dt _ => cases e0
          | lst xs =>
            by_cases hc : xs.length < 100000
            · have e1 := (if_pos hc).symm.trans e0
              cases e1
              obtain ⟨us, g1, g2⟩ := ok2.own (x2.pre _ _ hn) hs
              exact ⟨la, us, v, rfl, rfl, g1, by rw [← g2.length]; exact Nat.lt_trans hc (by decide), k _ _ ρ2 (x1.trans (x2.trans (Ex.wr g1))) (ok2.wr (x2.pre _ _ hn) hs g1 (g2.append (.cons r3 .nil))) .non⟩
            · have e1 := (if_neg hc).symm.trans e0
              cases e1
  | _ => cases e⟩
theorem RelL.dropLast {K H ρ} : ∀ {ds : List D} {vs : List V}, RelL K H ρ ds vs → RelL K H ρ ds.dropLast vs.dropLast := fun {ds vs} r => by
  rw [List.dropLast_eq_take, List.dropLast_eq_take, r.length]
  exact r.take _
/-! ### slices of lists -/
abbrev EvO := Sg → Store → Option (Option Int × Store)
def TOd (K : PySem.W.Frag) (m : EvO) : TO := fun σ H Q => ∃ σd S ρ o S', Sok K H ρ σd σ ∧ Ok K H ρ S ∧ m σd S = some (o, S') ∧ ∀ H' ρ', Ex K H ρ H' ρ' → Ok K H' ρ' S' → Q o H'
structure QO (X : Cx) (e : Option Expr) (m : EvO) : Prop where
  ok : PO X e (TOd X.K m)
theorem PO.imp {X : Cx} {e : Option Expr} {t t' : TO} (h : PO X e t) (i : ∀ σ H Q, t' σ H Q → t σ H Q) : PO X e t' := fun pins s σ H Q I hw => h pins s σ H Q I (i σ H Q hw)
def eoN : EvO := fun _ S => some (none, S)
def eoS (m : Ev) : EvO := fun σ S => (m σ S).bind fun p => match p.1 with
  | .int i => some (some i, p.2)
  | _ => none
theorem q_onone : QO X none eoN := ⟨PO.imp po_none fun σ H Q h => by
  obtain ⟨σd, S, ρ, d, S', so, ok, e, k⟩ := h
  cases e
  exact k H ρ .refl ok⟩
theorem q_osome (h : QE X e m) : QO X (some e) (eoS m) := ⟨PO.imp (po_some h.ok) fun σ H Q h => by
  obtain ⟨σd, S, ρ, d, S', so, ok, e, k⟩ := h
  obtain ⟨⟨l, S1⟩, e1, e⟩ := Option.bind_eq_some_iff.mp e
  refine ⟨σd, S, ρ, l, S1, so, ok, e1, fun lv H1 ρ1 x1 ok1 r1 => ?_⟩
  cases r1 with
  | int i => cases e; exact ⟨i, rfl, k H1 ρ1 x1 ok1⟩
  | _ => cases e⟩
def cutD (xs : List D) (lo hi : Option Int) : List D := (xs.drop (HT.sIx xs.length 0 lo)).take (HT.sIx xs.length xs.length hi - HT.sIx xs.length 0 lo)
theorem RelL.cut {K H ρ} {ds : List D} {vs : List V} (r : RelL K H ρ ds vs) (lo hi : Option Int) : RelL K H ρ (cutD ds lo hi) (cutV vs lo hi) := by
  unfold cutD cutV
  rw [r.length]
  exact (r.drop _).take _
end
end Q2
namespace HT
open PySem PyProof.Rows
open AutoSeq1 (wpAny_loadPart')
section
variable {prog : Program} {w : World} {A : Around} {E : Value → Shared → Prop} {s : Shared}
theorem partRule' {vs : Array Value} {k : Nat} {lt : k < vs.size} {v : Value} {o : Option Int} {Q : Option Int → Shared → Prop} (p : IsPart v o) (e : vs[k] = v) (h : Q o s) : wpAny (model prog w) A (Builtin.Slice.slicePartIndex vs[k]) Q E s := by
  rw [e]; exact slicePart_ p h
theorem getItem_tuple_whole {t sl : Addr} {items : Array Value} {vl vu : Value} {lo hi : Option Int} {Q : Value → Shared → Prop} (ht : IsTup s.heap t items) (hs : s.heap.IsSliceOf sl vl vu .none) (pl : IsPart vl lo) (pu : IsPart vu hi)
    (hw : sIx items.size 0 lo = 0 ∧ sIx items.size items.size hi = items.size)
    (h : Q (.ref t) s) : wpAny (model prog w) A (getItem (.ref t) (.ref sl)) Q E s := by
  have ty := ht.typeIs
  have gets := slot_tuple_getitem
  have gl := gets.lookup
  rcases ht with ⟨⟨_, dt, _, st⟩, gt, rfl, nt, rfl⟩
  rcases hs with ⟨⟨_, ds, _, ss⟩, gs, rfl, rfl⟩
  cases s
  have pn := IsPart.none
  wp_walk using wpAny_loadPart' gt
  apply wpAny_of_eq (gets.bind _)
  refine wpAny_bind (wpAny_call_entry gets ty F.entry_tuple_getitem ?walk (F.args_tuple_getitem_2 _ _))
  wp_walk using wpAny_loadPart' gt, wpAny_loadPart' gs, partRule' pl rfl, partRule' pu rfl, partRule' pn rfl
  have all : Builtin.Slice.sliceAdjust lo hi 1 (items.size : Int) = (0, (items.size : Int)) := by rw [adjust_gen, hw.1, hw.2]; rfl
  have many : Builtin.Slice.slicePlaces 0 (items.size : Int) 1 = items.size := places_gen 0 items.size
  simp only [Option.getD_none, all, many, beq_self_eq_true, Bool.and_self, if_true]
  wp_walk using wpAny_loadPart' gt
  exact ⟨_, rfl, wpAny_pure (wpAny_pure h)⟩
end
end HT
namespace Q2
open PySem L2
section
variable {X : Cx} {a b c e o : Expr} {ma mb mc m mo : Ev} {pos p : Pos}
/-- t[lo:hi], whole or not -/
def rSlTw (K : PySem.W.Frag) : V → Option Int → Option Int → Hp → VK → Prop := fun x lo hi H Q => ∃ a xs, x = .ref a ∧ L2.SqT K H a xs ∧
  (HT.sIx xs.length 0 lo = 0 ∧ HT.sIx xs.length xs.length hi = xs.length) ∧ Q (.ref a) H
theorem sl_tupW : SlR X (rSlTw X.K) := by
  intro pins s σ H x v vl vu lo hi sl Q I rx hs pl pu h
  obtain ⟨a, xs, rfl, hx, hw, q⟩ := h
  cases rx
  obtain ⟨its, r, ht, hz⟩ := I.tuple hx
  have hlen : its.toArray.size = xs.length := by rw [List.size_toArray]; exact r.length.symm
  refine ⟨"tuple", _, PyProof.Rows.slot_tuple_getitem.lookup, ht.typeIs, ?_⟩
  exact HT.getItem_tuple_whole ht hs pl pu (by rw [hlen]; exact hw) ⟨.ref a, H, I, rfl, q⟩
/-- a slice of a list or a tuple -/
def evSl (m : Ev) (ml mh : EvO) : Ev := fun σ S => (m σ S).bind fun p => (ml σ p.2).bind fun l => (mh σ l.2).bind fun h => match p.1 with
  | .tup xs => some (.tup (cutD xs l.1 h.1), h.2)
  | d => (lstD d h.2).map fun xs => (.loc h.2.length, h.2 ++ [.lst (cutD xs l.1 h.1)])
theorem cutD_whole {xs : List D} {lo hi : Option Int} (h : HT.sIx xs.length 0 lo = 0 ∧ HT.sIx xs.length xs.length hi = xs.length) : cutD xs lo hi = xs := by
  unfold cutD
  rw [h.1, h.2, List.drop_zero, Nat.sub_zero, List.take_length]
theorem q_slice {lo hi : Option Expr} {ml mh : EvO} {p2 : Pos} (he : QE X e m) (hl : QO X lo ml) (hh : QO X hi mh) : QE X (.Subscript e (.Slice lo hi none p2) pos) (evSl m ml mh) := ⟨PE.imp (pe_slice (SlR.or sl_list (SlR.or sl_tup sl_tupW)) he.ok hl.ok hh.ok) fun σ H Q h => by
  obtain ⟨σd, S, ρ, d, S', so, ok, e, k⟩ := h
  obtain ⟨⟨l, S1⟩, e1, e⟩ := Option.bind_eq_some_iff.mp e
  obtain ⟨⟨lo, S2⟩, e2, e⟩ := Option.bind_eq_some_iff.mp e
  obtain ⟨⟨hi, S3⟩, e3, e⟩ := Option.bind_eq_some_iff.mp e
  refine ⟨σd, S, ρ, l, S1, so, ok, e1, fun lv H1 ρ1 x1 ok1 r1 => ?_⟩
  refine ⟨σd, S1, ρ1, lo, S2, so.mono x1, ok1, e2, fun H2 ρ2 x2 ok2 => ?_⟩
  refine ⟨σd, S2, ρ2, hi, S3, (so.mono x1).mono x2, ok2, e3, fun H3 ρ3 x3 ok3 => ?_⟩
  have r3 := (r1.mono x2).mono x3
  have x13 := x1.trans (x2.trans x3)
  cases r3 with
  | @tup a ds vs h rl =>
    cases e
    have hl := rl.length
    by_cases hw : HT.sIx vs.length 0 lo = 0 ∧ HT.sIx vs.length vs.length hi = vs.length
    · refine .inr (.inr ⟨a, vs, rfl, h.any, hw, ?_⟩)
      have e' : cutD ds lo hi = ds := cutD_whole (by rw [hl]; exact hw)
      exact k _ H3 ρ3 x13 ok3 (by dsimp only; rw [e']; exact .tup h rl)
    · refine .inr (.inl ⟨a, vs, rfl, h.any, hw, fun q hq => ?_⟩)
      exact k _ _ ρ3 (x13.trans (Ex.new hq)) (ok3.new hq) (.tup (SqT.of upd_same) ((rl.cut lo hi).mono (Ex.new hq)))
  | @loc n a hn =>
    obtain ⟨xs, e4, e⟩ := Option.map_eq_some_iff.mp e
    cases e
    obtain ⟨a, vs, e5, rl, h⟩ := lst_ok (K := X.K) ok3 (Rel.loc hn) e4
    cases e5
    refine .inl ⟨_, vs, rfl, h, fun q hq => ?_⟩
    obtain ⟨z1, z2, z3⟩ := ok3.lastL hq (rl.cut lo hi)
    exact k _ _ _ (x13.trans z1) z2 z3
  | _ => cases e⟩
/-- t[::-1] -/
def oRev : Op1 := fun d S => match d with
  | .tup xs => some (.tup xs.reverse, S)
  | _ => none
end
end Q2
namespace PySem
open Sem (wp)
open AutoSeq1 (wpAny_loadPart')
section
variable {prog : Program} {w : World} {A : Around} {E : Value → Shared → Prop} {s : Shared}
end
section
variable {prog : Program} {w : World} {A : Around} {E : Value → Shared → Prop} {s : Shared}
end
/-! reversed(t) -/
namespace F
end F
section
variable {prog : Program} {w : World} {A : Around} {E : Value → Shared → Prop} {s : Shared}
end
end PySem
namespace Q2
open PySem L2
/-! ### enumerate(t), reversed(t), t a tuple -/
section
variable {X : Cx} {a b c e : Expr} {m : Ev} {pos p : Pos} {mr : EvA}
end
end Q2
namespace Q2
open PySem L2
section
variable {X : Cx} {tg : Expr}
end
end Q2
namespace Q2
open PySem L2
/-! a test that leaves no cells behind -/
open Classical in
noncomputable def evTGc (m : EvT) : EvT := fun σ S => (m σ S).bind fun p => if Keeps S p.2 then some (p.1, p.2.take S.length) else some p
theorem q_tgc {X : Cx} {e : Expr} {m : EvT} (h : QT X e m) : QT X e (evTGc m) := ⟨PT.imp h.ok fun σ H Q hh => by
  obtain ⟨σd, S, ρ, b, S', so, ok, e, k⟩ := hh
  obtain ⟨⟨b0, S1⟩, e1, e⟩ := Option.bind_eq_some_iff.mp e
  refine ⟨σd, S, ρ, b0, S1, so, ok, e1, fun H1 ρ1 x1 ok1 => ?_⟩
  by_cases hc : Keeps S S1
  · have e' := (if_pos hc).symm.trans e
    cases e'
    exact k H1 ρ ⟨x1.tup, fun _ _ h => h⟩ (hc.ok ok x1 ok1)
  · have e' := (if_neg hc).symm.trans e
    cases e'
    exact k H1 ρ1 x1 ok1⟩
theorem evTGc_app {m : EvT} {σ S b} {U : Store} (e : m σ S = some (b, S ++ U)) : evTGc m σ S = some (b, S) := by
  have h : evTGc m σ S = some (b, (S ++ U).take S.length) := by
    unfold evTGc
    rw [e]
    exact if_pos Keeps.app
  rw [h, List.take_left' rfl]
/-- what a def's function tells, behind its body: the answer is closed, the cells ahead are kept or closed -/
theorem Sem.dropA {mb : Sv} {N : List Str} {ds : List D} {S U : Store} {d : D} (h : mb (startD N ds) S = some (.rt d (S ++ U))) (hd : d.cl = true) : Sem mb N ds S d S := by
  have := Sem.drop h hd Keeps.app
  rwa [List.take_left' rfl] at this
end Q2
namespace PySem
open Sem (wp)
/-- a generator's run up to its next yield or its end, whatever is wanted of it -/
def SegF (M : Model) (A : Around) (F : End → Shared → Prop) (c : Code) (t : Sem Fin) (fs : List Frame) (s : Shared) : Prop :=
  ∀ (Γ : Ctx) (p : Pos), Γ.code = c → Γ.Woken A → ∃ e s', Runs M Γ p t fs s e s' ∧ F e s'
section
variable {M : Model} {A : Around} {F : End → Shared → Prop} {c : Code} {fs : List Frame} {s : Shared}
theorem sf_wrap {α : Type} {m : Sem α} {K : α → Sem Fin} {H : Value → Sem Fin} {gd lv}
    (h : wpAny M (A.over c fs) m (fun a s' => SegF M A F c (K a) fs s') (fun x s' => SegF M A F c (H x) fs s') s) : SegF M A F c (m.wrap K H gd lv) fs s := by
  rintro Γ p rfl hΓ
  exact runs_wrap_of_wp K H gd lv m (h (Γ.over fs) p (hΓ.over fs)) (fun a p' s' h' => h' Γ p' rfl hΓ) (fun x p' s' h' => h' Γ p' rfl hΓ)
theorem sf_bind_wrap {α β : Type} {m : Sem α} {K : α → Sem β} {K' : β → Sem Fin} {H' : Value → Sem Fin} {gd lv}
    (h : wpAny M (A.over c fs) m (fun a s' => SegF M A F c ((K a).wrap K' H' gd lv) fs s') (fun x s' => SegF M A F c (H' x) fs s') s) : SegF M A F c ((m >>= K).wrap K' H' gd lv) fs s := by
  rw [Sem.bind_eq_wrap', Sem.wrap_wrap]; exact sf_wrap h
theorem sf_at {p' : Pos} {k : Unit → Sem Fin} (h : SegF M A F c (k ()) fs s) : SegF M A F c (.at p' k) fs s :=
  sf_wrap (m := standAt p') (K := k) (H := .raise) (gd := id) (lv := id) (wpAny_standAt h)
theorem sf_again {c' : Code} (hq : c'.quiet = true) (hc : SegF M A F c' (M.den c') fs s) : SegF M A F c (.pure (.again c')) fs s := by
  rintro Γ p rfl hΓ
  obtain ⟨e, s', hr, he⟩ := hc (Γ.goto c') p rfl (hΓ.goto c')
  exact ⟨e, s', Runs.head (c₁ := c') (fun _ _ x => .again hq x) hr, he⟩
theorem sf_end (r : Result) (h : F (.ret r) s) : SegF M A F c (leafOf r) [] s := by
  rintro Γ p rfl _
  exact ⟨.ret r, s, Runs.leaf r, h⟩
theorem sf_yield {v g l} {k : Resume → Sem Fin} (hfs : splitAtGen fs = none) (h : ∀ p, F (.susp v g l k c p fs) s) : SegF M A F c (.yield v g l k) fs s := by
  rintro Γ p rfl _
  exact ⟨_, s, Runs.yield' fs hfs, h p⟩
end
/-- what the next wake of it does -/
def GenState.GoF (M : Model) (A : Around) (F : End → Shared → Prop) (gs : GenState) (s : Shared) : Prop :=
  match gs with
  | .fresh c => SegF M A F c (M.den c) [] s
  | .suspended k _ c _ fs _ => SegF M A F c (k (.send .none)) fs s
  | _ => False
theorem wpAny_resumeF {M : Model} {A : Around} {F : End → Shared → Prop} {E : Value → Shared → Prop} {s : Shared} {g : Nat} {gs : GenState}
    {l : List Value} {α : Type} {k : GenResult → Sem α} {Q : α → Shared → Prop} (hg : s.gens[g]? = some gs)
    (hgo : gs.GoF M A F (s.setGen g .running))
    (hF : ∀ e s₁, F e s₁ → e.quiet = true ∧ wpAny M A (k e.result) Q E (s₁.setGen g e.genState)) :
    wpAny M A (.resume g (.send .none) l k) Q E s := by
  intro Γ p below
  rw [Sem.wp_resume]
  have woken : ∀ (c : Code) (q : Pos) (t : Sem Fin) (fs : List Frame), SegF M A F c t fs (s.setGen g .running) → ∃ e s₁, Runs M (Γ.wake c p) q t fs (s.setGen g .running) e s₁ ∧ F e s₁ :=
    fun c q t fs seg => seg (Γ.wake c p) q rfl (below.wake c p)
  cases gs
  case fresh c =>
    obtain ⟨e, s₁, runs, f⟩ := woken c p _ _ hgo
    refine ⟨_, _, ?_, (hF e s₁ f).2 Γ p below⟩
    unfold Wakes
    rw [hg]
    exact ⟨e, s₁, runs, (hF e s₁ f).1, rfl, rfl⟩
  case suspended c q fs _ =>
    obtain ⟨e, s₁, runs, f⟩ := woken c q _ _ hgo
    refine ⟨_, _, ?_, (hF e s₁ f).2 Γ p below⟩
    unfold Wakes
    rw [hg]
    exact ⟨e, s₁, runs, (hF e s₁ f).1, rfl, rfl⟩
  case running => exact False.elim hgo
  case finished => exact False.elim hgo
section
variable {prog : Program} {w : World} {A : Around} {E : Value → Shared → Prop} {s : Shared}
theorem wpAny_pyNext_genF {a : Addr} {g : Nat} {gs : GenState} {F : End → Shared → Prop} {Q : Option Value → Shared → Prop} (hh : A.handled = none)
    (hl : s.heap.NoLimit) (hroom : A.depth < recursionLimit)
    (hg : s.heap.IsGen a g) (hgs : s.gens[g]? = some gs)
    (hgo : gs.GoF (model prog w) A.in1 F (s.setGen g .running))
    (hF : ∀ e s₁, F e s₁ → e.quiet = true ∧ match e with
      | .ret r => r = .ok .next ∧ ∀ h', (∀ b o, s₁.heap.get? b = some o → h'.get? b = some o) → Q none { s₁.setGen g .finished with heap := h' }
      | .susp v _ _ _ _ _ _ => Q (some v) (s₁.setGen g e.genState)) :
    wpAny (model prog w) A (pyNext (.ref a)) Q E s := by
  have nx := PySem.slot_gen_next
  have ty : s.TypeIs (.ref a) "generator" := let ⟨o, _, _, at_a, cl, _⟩ := hg; ⟨o, at_a, cl⟩
  delta pyNext
  refine wpAny_bind (wpAny_attempt (wpAny_callSpecial?_slot (name := Str.ofString "__next__") ty nx ?_))
  refine wpAny_call_entry nx ty PySem.entry_gen_next ?wake (PySem.args_gen_next _)
  have asks : gs.status = .fresh ∨ gs.status = .suspended := by
    cases gs
    case fresh => exact .inl rfl
    case suspended => exact .inr rfl
    case running => exact hgo.elim
    case finished => exact hgo.elim
  obtain ⟨hp, gns, dr, tk, os⟩ := s
  wp_walk using wpAny_genNumber hg, wpAny_genState hgs
  have resumed : ∀ {Q' : GenResult → Shared → Prop} {E' : Value → Shared → Prop}, (∀ e s₁, F e s₁ → e.quiet = true ∧ Q' e.result (s₁.setGen g e.genState)) → wpAny (model prog w) A.in1 (resume g (.send .none)) Q' E' ⟨hp, gns, dr, tk, os⟩ :=
    fun k => wpAny_resumeF hgs hgo fun e s₁ f => ⟨(k e s₁ f).1, wpAny_pure (k e s₁ f).2⟩
  have room : A.in1.depth < recursionLimit := hroom
  have stop := isSubtype_stop
  rcases asks with fresh | rests
  all_goals
    first | rw [fresh] | rw [rests]
    wp_walk using wpAny_roomToWake hl room, resumed
    intro e s₁ f
    obtain ⟨quiet, k⟩ := hF e s₁ f
    refine ⟨quiet, ?_⟩
    cases e
    case susp => exact wpAny_pure ⟨_, rfl, wpAny_pure k⟩
    case ret r =>
      obtain ⟨rfl, k⟩ := k
      cases s₁
      wp_walk
      refine wpAny_raiseNew_none (A := A.in1) hh ?_
      refine wpAny_bind (wpAny_isInstance (T := "StopIteration") ⟨_, Heap.get?_push_size _ rfl, rfl⟩ stop (wpAny_pure (k _ fun b o at_b => ?_)))
      exact Heap.get?_push_of_some _ (Heap.get?_push_of_some _ at_b)

end
/-- the turns of a generator expression up to a yield or the end -/
theorem sf_loop {prog : Program} {w : World} {A : Around} {F : End → Shared → Prop} {elt target iter : Expr} {ifs : List Expr} {scope : Scope} {pos : Pos} {it : Value} {env : Env} (I : Nat → Shared → Prop)
    (hco : env.scope.isCoroutine = false)
    (turn : ∀ n s, I n s → wpAny (model prog w) (A.over (.compLoop (.GeneratorExp elt [⟨target, iter, ifs, 0⟩] scope pos) 0 it .none env) []) (pyNext it) (fun r s₁ => match r with
      | none => F (.ret (.ok .next)) s₁
      | some v => wpAny (model prog w) (A.over (.compLoop (.GeneratorExp elt [⟨target, iter, ifs, 0⟩] scope pos) 0 it .none env) []) (letOwnedTupleGo target it v) (fun _ s₁' => wpAny (model prog w) (A.over (.compLoop (.GeneratorExp elt [⟨target, iter, ifs, 0⟩] scope pos) 0 it .none env) []) (assign target env v) (fun _ s₂ =>
          wpAny (model prog w) (A.over (.compLoop (.GeneratorExp elt [⟨target, iter, ifs, 0⟩] scope pos) 0 it .none env) []) (forIn ifs true fun c r => if r = true then do let ok ← isTrue c env (eval c env); pure (ForInStep.yield ok) else pure (ForInStep.yield r)) (fun ok s₃ =>
            if ok = true then wpAny (model prog w) (A.over (.compLoop (.GeneratorExp elt [⟨target, iter, ifs, 0⟩] scope pos) 0 it .none env) []) (eval elt env) (fun y s₄ =>
              ∀ l k p, k (.send .none) = .pure (.again (.compLoop (.GeneratorExp elt [⟨target, iter, ifs, 0⟩] scope pos) 0 it .none env)) → F (.susp y false l k (.compLoop (.GeneratorExp elt [⟨target, iter, ifs, 0⟩] scope pos) 0 it .none env) p []) s₄) (fun _ _ => False) s₃
            else ∃ m, m < n ∧ I m s₃) (fun _ _ => False) s₂) (fun _ _ => False) s₁') (fun _ _ => False) s₁) (fun _ _ => False) s) :
    ∀ (n : Nat) (s : Shared), I n s → SegF (model prog w) A F (.compLoop (.GeneratorExp elt [⟨target, iter, ifs, 0⟩] scope pos) 0 it .none env) ((model prog w).den (.compLoop (.GeneratorExp elt [⟨target, iter, ifs, 0⟩] scope pos) 0 it .none env)) [] s := by
  intro n
  induction n using Nat.strongRecOn with
  | ind n ih =>
    intro s hI
    show SegF _ A F _ ((compTurn (.GeneratorExp elt [⟨target, iter, ifs, 0⟩] scope pos) 0 it .none env).onRaise (leaving env)) [] s
    rw [compTurn_gen, Sem.onRaise_eq_wrap]
    refine sf_bind_wrap (wpAny_standAt ?_)
    refine sf_bind_wrap (wpAny_mono (turn n s hI) (fun r s₁ h₁ => ?_) fun _ _ e => e.elim)
    cases r with
    | none => exact sf_end (.ok .next) h₁
    | some v =>
      refine sf_bind_wrap (wpAny_mono h₁ (fun _ s₁' h₁' => ?_) fun _ _ e => e.elim)
      refine sf_bind_wrap (wpAny_mono h₁' (fun _ s₂ h₂ => ?_) fun _ _ e => e.elim)
      refine sf_bind_wrap (wpAny_mono h₂ (fun ok s₃ h₃ => ?_) fun _ _ e => e.elim)
      cases ok with
      | false =>
        simp only [Bool.false_eq_true, if_false] at h₃ ⊢
        obtain ⟨m, hm, hI'⟩ := h₃
        exact sf_again rfl (ih m hm s₃ hI')
      | true =>
        simp only [if_true] at h₃ ⊢
        have hy : ∀ v, yieldOut env v = yieldValue v := fun v => by simp only [yieldOut, hco, Bool.false_eq_true, if_false]
        simp only [hy]
        rw [Sem.bind_eq_wrap', Sem.bind_eq_wrap', Sem.wrap_wrap, Sem.wrap_wrap]
        refine sf_wrap (wpAny_mono h₃ (fun y s₄ h₄ => ?_) fun _ _ e => e.elim)
        exact sf_at (sf_yield rfl fun p => h₄ _ _ p rfl)
end PySem
set_option maxHeartbeats 1000000
namespace L2
open PySem PySem.Spec PyProof.Rows
/-- the context of a generator expression's own frame -/
abbrev Cx.gen (X : Cx) (A : Around) (s : Shared) (H : Hp) (ce : Env) (fp : List Addr) : Cx := { X with A := A, s_0 := s, H_0 := H, env := ce, outer := X.stack, stack := ce :: X.stack, ex := fp, fn := fun _ => false, calm := true, pn := [], xe := fun _ _ => False }
abbrev gEnv (X : Cx) (scope : Scope) (C : Addr) (code : Value) : Env := genEnv scope (cloFrom X.env.cells scope.names []) C code builtinsNs X.env
section
variable {X : Cx} {pins : List (Addr × Obj)} {σ : St} {H : Hp} {s : Shared}
theorem gen_start {scope : Scope} {own : List (Str × Nat)} {fp : List Addr} {A' : Around} {code : Value} {g0 g5 : Array GenState} {h5 : Heap} {m : Str → Option Value} {tk : Nat}
    (I : Inv X pins σ H s) (ok : BlkOk X.N X.env.scope scope own) (hcell : ∀ y ∈ scope.names, y.2 ≠ .cell) (hN : X.N.Nodup) (hfp : ∀ b ∈ fp, FpOk X pins H b ∧ b < s.heap.objs.size)
    (hA : A'.handled = none) (hF : A'.frames = some (gEnv X scope s.heap.objs.size code :: X.stack)) (kp : ∀ b o, s.heap.get? b = some o → h5.get? b = some o) (hn : h5.Ns s.heap.objs.size m) (hG : GP g0 g5) :
    Inv (X.gen A' { s with gens := g0 } H (gEnv X scope s.heap.objs.size code) fp) [] (wipe σ (own.map (·.2))) H { s with heap := h5, gens := g5, toks := tk } := by
  have hfree : ∀ y ∈ scope.names, y.2 = .free → ∃ c, X.env.cells.lookup y.1 = some c := fun y hy e => by
    rcases ok.free y hy e with k | k
    · exact I.ok.has _ (.inl k)
    · exact I.ok.has _ (.inr k)
  generalize hcenv : gEnv X scope s.heap.objs.size code = cenv at hF
  have hL : cenv.locals = s.heap.objs.size := by rw [← hcenv]; rfl
  have hcl : cenv.cells = cloFrom X.env.cells scope.names [] := by rw [← hcenv]; rfl
  have hsc : cenv.scope = scope := by rw [← hcenv]; rfl
  have cm : ∀ {y c}, (y, c) ∈ cloFrom X.env.cells scope.names [] → X.env.cells.lookup y = some c ∧ c < s.heap.objs.size := fun {y c} hm => by
    rcases cloFrom_mem hm with hm | ⟨h1, rfl⟩
    · cases hm
    · obtain ⟨c, hc⟩ := hfree _ h1 rfl
      rw [hc]
      obtain ⟨w, z⟩ := I.cell _ _ hc
      exact ⟨rfl, z.lt⟩
  have mem : ∀ {y c}, cenv.cells.lookup y = some c → X.env.cells.lookup y = some c ∧ c < s.heap.objs.size := fun {y c} e => by
    rw [hcl] at e
    exact cm (PySem.mem_of_lookup e)
  have look : ∀ {y}, scope.names.lookup y = some .free → ∃ c, cenv.cells.lookup y = some c ∧ X.env.cells.lookup y = some c := fun {y} hl => by
    have hy : (y, NameKind.free) ∈ scope.names := PySem.mem_of_lookup hl
    obtain ⟨c', e'⟩ := mem_lookup (cloFrom_has (cells := X.env.cells) (acc := []) hy)
    rw [← hcl] at e'
    exact ⟨c', e', (mem e').1⟩
  have okB : (X.gen A' { s with gens := g0 } H cenv fp).Ok := by
    refine ⟨I.ok.mod, by show cenv.scope.kind = _; rw [hsc]; exact ok.kind, by show cenv.globals = _; rw [← hcenv]; exact I.ok.glob, (by show cenv.builtins = _; rw [← hcenv]; rfl), by show s.heap.objs.size ≤ cenv.locals; rw [hL]; exact Nat.le_refl _,
      fun y z c e1 e2 => I.ok.inj y z c (mem e1).1 (mem e2).1, fun y hy => ?_, fun y c z e => (by cases z), fun _ => hA, hF, .inr ⟨rfl, by show cenv.frame = some cenv.locals; rw [← hcenv]; rfl⟩, fun b hb => ⟨?_, fun y c e z => ?_⟩, I.bs, Nat.le_trans I.ok.bsz I.sz, fun b o e hb => ?_, fun b hb z => ?_, I.stack, I.stkFree⟩
    · show ∃ c, cenv.cells.lookup y = some c
      have key : ∀ k, cenv.kindOf y = some k → (k = .cell ∨ k = .free) → ∃ c, cenv.cells.lookup y = some c := fun k hk hk' => by
        have hk : cenv.scope.names.lookup y = some k := hk
        rw [hsc] at hk
        rcases hk' with rfl | rfl
        · exact absurd rfl (hcell _ (PySem.mem_of_lookup hk))
        · obtain ⟨c, h1, _⟩ := look hk
          exact ⟨c, h1⟩
      rcases hy with hy | hy
      · exact key _ hy (.inl rfl)
      · exact key _ hy (.inr rfl)
    · show b ≠ cenv.locals
      rw [hL]; exact Nat.ne_of_lt (hfp b hb).2
    · exact (hfp b hb).1.2.2.2.2.1 y c (mem e).1 z
    · rcases (hfp b hb).1.2.2.2.1 with z | z
      · exact I.ok.noex b o e z
      · exact absurd (Nat.lt_of_lt_of_le (Heap.lt_size e) (Nat.le_trans I.ok.bsz z)) (Nat.lt_irrefl _)
    · rcases List.mem_cons.mp (I.stkSub b z) with z | z
      · exact (hfp b hb).1.2.1 z
      · exact (hfp b hb).1.2.2.1 z
  refine ⟨okB, rfl, hG, Un.kept kp, ⟨m, ?_, fun i y av e1 e2 e3 => ?_⟩, fun y c e => ?_, ?_, fun y c e => ?_, fun p hp => absurd (show p ∈ ([] : List (Addr × Obj)) ++ [] from hp) (by simp), I.hok.kept kp, by rw [wipe_length]; exact I.len⟩
  · show Heap.Ns _ cenv.locals _
    rw [hL]; exact hn
  · obtain ⟨e2, hne⟩ := wipe_some e2
    have hfr : scope.names.lookup y = some .free := by
      have key : ∀ k, cenv.scope.names.lookup y = some k → k = .local ∨ k = .cell ∨ k = .free → scope.names.lookup y = some .free := fun k hk hk' => by
        rw [hsc] at hk
        have no : ¬ (k = .local ∨ k = .cell) := fun hh => by
          rcases ok.own _ (PySem.mem_of_lookup hk) hh with e' | e'
          · obtain ⟨p, hp, hpy⟩ := List.mem_map.mp e'
            have e3 := ok.ix p hp
            have : p.1 = y := hpy
            rw [this] at e3
            exact hne (List.mem_map.mpr ⟨p, hp, nodup_ix hN e3 e1⟩)
          · exact e' (List.mem_of_getElem? e1)
        rcases hk' with rfl | rfl | rfl
        · exact absurd (.inl rfl) no
        · exact absurd (.inr rfl) no
        · exact hk
      have e3 : Vis cenv.scope y := e3
      rcases e3 with e3 | e3 | e3
      · exact key _ e3 (.inl rfl)
      · exact key _ e3 (.inr (.inl rfl))
      · exact key _ e3 (.inr (.inr rfl))
    obtain ⟨m1, hn1, hl⟩ := I.loc
    have vis : Vis X.env.scope y := by
      rcases ok.free _ (PySem.mem_of_lookup hfr) rfl with k | k
      · exact .inr (.inl k)
      · exact .inr (.inr k)
    obtain ⟨u, ru, lk⟩ := hl i y av e1 e2 vis
    obtain ⟨c, hc1, hc2⟩ := look hfr
    refine ⟨u, ru, .inr ⟨.inr (by show cenv.scope.names.lookup y = _; rw [hsc]; exact hfr), c, hc1, ?_⟩⟩
    rcases lk with ⟨k, _⟩ | ⟨_, c', e', z⟩
    · have k : X.env.scope.names.lookup y = some .local := k
      rcases ok.free _ (PySem.mem_of_lookup hfr) rfl with k' | k' <;> (rw [k] at k'; cases k')
    · rw [hc2] at e'; cases e'
      obtain ⟨o, ho, hd⟩ := z
      exact ⟨o, kp _ _ ho, hd⟩
  · obtain ⟨v, o, ho, hd⟩ := I.cell y c (mem e).1
    exact ⟨v, o, kp _ _ ho, hd⟩
  · show H cenv.locals = none
    rw [hL]; exact I.hok.fresh (Nat.le_refl _)
  · exact I.freeC y c (mem e).1
/-- another wake -/
theorem Inv.regen {A A' : Around} {s0 : Shared} {g0 g1 : Array GenState} {H0 : Hp} {ce : Env} {fp : List Addr} (I : Inv (X.gen A { s0 with gens := g0 } H0 ce fp) pins σ H s) (hA : A'.handled = none) (hF : A'.frames = some (ce :: X.stack)) {g' : Array GenState} (hG : GP g1 g') :
    Inv (X.gen A' { s0 with gens := g1 } H0 ce fp) pins σ H { s with gens := g' } :=
  ⟨⟨I.ok.mod, I.ok.kind, I.ok.glob, I.ok.blt, I.ok.above, I.ok.inj, I.ok.has, I.ok.cab, fun _ => hA, hF, I.ok.stk, I.ok.exf, I.ok.bs, I.ok.bsz, I.ok.noex, I.ok.exfs, I.ok.funs, I.ok.frf⟩,
    I.os, hG, I.base, I.loc, I.cell, I.free, I.freeC, I.pin, I.hok, I.len⟩
/-- back in the def's context -/
theorem Inv.ungen {A : Around} {s0 : Shared} {g0 : Array GenState} {H0 : Hp} {ce : Env} {fp : List Addr} {σ' : St} {pl : List (Addr × Obj)} (I0 : Inv X pins σ H0 s0) (I : Inv (X.gen A { s0 with gens := g0 } H0 ce fp) pl σ' H s) (hG : GP s0.gens s.gens)
    (hfp : ∀ b ∈ fp, FpOk X pins H0 b) : Inv X pins σ H s :=
  I0.call' (ch := fp) I.os I.base I.hok hG fun b hb => ⟨(hfp b hb).2.2.2.1, (hfp b hb).2.1, (hfp b hb).2.2.2.2.1, (hfp b hb).2.2.2.2.2⟩
end
end L2
set_option maxHeartbeats 2000000
namespace PySem
theorem sf_start {prog : Program} {w : World} {A : Around} {F : End → Shared → Prop} {s : Shared} {elt target iter : Expr} {ifs : List Expr} {scope : Scope} {pos : Pos} {it : Value} {env : Env}
    (loop : SegF (model prog w) A F (.compLoop (.GeneratorExp elt [⟨target, iter, ifs, 0⟩] scope pos) 0 it .none env) ((model prog w).den (.compLoop (.GeneratorExp elt [⟨target, iter, ifs, 0⟩] scope pos) 0 it .none env)) [] s)
    (self : ∀ (A' : Around) (Q : Value → Shared → Prop) (E : Value → Shared → Prop), Q it s → wpAny (model prog w) A' (pyIter it) Q E s) :
    SegF (model prog w) A F (.compStart (.GeneratorExp elt [⟨target, iter, ifs, 0⟩] scope pos) 0 it .none env) ((model prog w).den (.compStart (.GeneratorExp elt [⟨target, iter, ifs, 0⟩] scope pos) 0 it .none env)) [] s := by
  show SegF _ A F _ ((compStart (.GeneratorExp elt [⟨target, iter, ifs, 0⟩] scope pos) 0 it .none env).onRaise (leaving env)) [] s
  unfold compStart
  rw [Sem.onRaise_eq_wrap]
  show SegF _ A F _ ((ask >>= _).wrap _ _ _ _) [] s
  refine sf_bind_wrap (wpAny_askSetting ?_)
  split
  · exact sf_again rfl loop
  · refine sf_bind_wrap (wpAny_rule ?_)
    show SegF _ A F _ ((standAt iter.pos >>= _).wrap _ _ _ _) [] s
    exact sf_bind_wrap (wpAny_standAt (sf_bind_wrap (self _ _ _ (sf_again rfl loop))))
theorem allBare_set {gens : Array GenState} {g : Nat} {x : GenState} (h : PyProof.Rows.AllBare gens) (hx : x.bare = true) : PyProof.Rows.AllBare (gens.setIfInBounds g x) := by
  intro y hy
  obtain ⟨k, hk⟩ := Array.mem_iff_getElem?.mp hy
  by_cases e : k = g
  · subst e
    rw [Array.getElem?_setIfInBounds_self] at hk
    split at hk
    · cases hk; exact hx
    · cases hk
  · rw [Array.getElem?_setIfInBounds_ne (Ne.symm e)] at hk
    exact h y (Array.mem_of_getElem? hk)
end PySem
namespace L2
open PySem PySem.Spec PyProof.Rows
theorem GP.set {a b : Array GenState} {g : Nat} {x : GenState} (h : GP a b) (hg : a.size ≤ g) (hx : x.bare = true) : GP a (b.setIfInBounds g x) :=
  ⟨allBare_set h.bare hx, by rw [Array.size_setIfInBounds]; exact h.size, fun k hk => by rw [Array.getElem?_setIfInBounds_ne (by omega)]; exact h.same k hk⟩
abbrev gLoop (e : Expr) (it : Addr) (ce : Env) : Code := .compLoop e 0 (.ref it) .none ce
abbrev gStart (e : Expr) (it : Addr) (ce : Env) : Code := .compStart e 0 (.ref it) .none ce
/-- the generator rests: it is new, or it has yielded -/
def GAt (e : Expr) (it : Addr) (ce : Env) (gs : GenState) : Prop :=
  gs = .fresh (gStart e it ce) ∨ ∃ k l p, gs = .suspended k l (gLoop e it ce) p [] false ∧ k (.send .none) = .pure (.again (gLoop e it ce))
structure GRest (X : Cx) (s0 : Shared) (H0 : Hp) (e : Expr) (it : Addr) (ce : Env) (fp : List Addr) (tn : Nat → Heap → Prop) (σw : St) (a g : Nat) (oa : Obj) (pe : List (Addr × Obj)) (i : Nat) (H : Hp) (s : Shared) : Prop where
  isg : s.heap.IsGen a g
  rest : ∃ gs, s.gens[g]? = some gs ∧ GAt e it ce gs
  inv : ∃ A0 g0, Inv (X.gen A0 { s0 with gens := g0 } H0 ce fp) ((a, oa) :: pe) σw H s
  tn : tn i s.heap
  nfp : ∀ b ∈ fp, H b = none
  gp : GP s0.gens s.gens
/-- what the next wake does, by a measure -/
def gnext (J : It) (g : TG) (tt : TT) (te : TE) (σw : St) (vs : List Nat) (QY : V → Nat → Hp → Prop) (QE : Hp → Prop) : Nat → Nat → Hp → Prop
  | 0, _, _ => False
  | m + 1, i, H => (J.stop i H ∧ QE H) ∨ (J.go i H ∧ ∀ x H', J.yld i H x H' → g x σw H' fun σ2 H2 => wipe σ2 vs = σw ∧ tt σ2 H2 fun b H3 =>
      if b = true then te σ2 H3 fun y H4 => QY y (i + 1) H4 else gnext J g tt te σw vs QY QE m (i + 1) H3)
section
variable {X : Cx} {s0 : Shared} {H0 : Hp} {elt tg iter : Expr} {ifs : List Expr} {scope : Scope} {gpos : Pos} {it a gn : Nat} {ce : Env} {fp : List Addr} {tn : Nat → Heap → Prop} {σ : St} {vs : List Nat} {oa : Obj} {pe : List (Addr × Obj)} {J : It} {g : TG} {tt : TT} {te : TE}
theorem gen_next {k m i : Nat} {H : Hp} {s : Shared} {QY : V → Nat → Hp → Prop} {QE : Hp → Prop} {A : Around} {E : Value → Shared → Prop} {Q : Option Value → Shared → Prop}
    (R : GRest X s0 H0 (.GeneratorExp elt [⟨tg, iter, ifs, 0⟩] scope gpos) it ce fp tn (wipe σ vs) a gn oa pe i H s) (hgn : s0.gens.size ≤ gn) (hfa : ∀ b ∈ fp, b ≠ a ∧ ∀ p ∈ pe, p.1 ≠ b)
    (T : Turn X.prog X.w X.K tg J fp it tn) (hg : gnext J g tt te (wipe σ vs) vs QY QE m i H) (hr : Room (k + 1) A) (hfr : A.frames = some X.stack) (hco : ce.scope.isCoroutine = false)
    (pg : ∀ (A' : Around) (g0 : Array GenState), Room k A' → PG (X.gen A' { s0 with gens := g0 } H0 ce fp) tg g)
    (pt : ∀ (A' : Around) (g0 : Array GenState), Room k A' → PTs (X.gen A' { s0 with gens := g0 } H0 ce fp) ifs tt)
    (pl : ∀ (A' : Around) (g0 : Array GenState), Room k A' → PE (X.gen A' { s0 with gens := g0 } H0 ce fp) elt te)
    (hoa : ∀ h : Heap, h.get? a = some oa → h.IsGen a gn)
    (hY : ∀ y u i' H' s', RelV y u → QY y i' H' → GRest X s0 H0 (.GeneratorExp elt [⟨tg, iter, ifs, 0⟩] scope gpos) it ce fp tn (wipe σ vs) a gn oa pe i' H' s' → Q (some u) s')
    (hE : ∀ H' s' A0 g0, QE H' → Inv (X.gen A0 { s0 with gens := g0 } H0 ce fp) ((a, oa) :: pe) (wipe σ vs) H' s' → GP s0.gens s'.gens → Q none s') :
    wpAny (model X.prog X.w) A (pyNext (.ref a)) Q E s := by
  obtain ⟨isg, ⟨gs, hgs, hat⟩, ⟨A0, g00, I⟩, st, nfp, gp⟩ := R
  have hlt : gn < s.gens.size := by
    rcases Nat.lt_or_ge gn s.gens.size with h | h
    · exact h
    · rw [Array.getElem?_eq_none h] at hgs; cases hgs
  generalize hs1 : s.setGen gn .running = s1
  have hh1 : s1.heap = s.heap := by rw [← hs1]; rfl
  have hg1 : s1.gens = s.gens.setIfInBounds gn .running := by rw [← hs1]; rfl
  have run1 : s1.gens[gn]? = some .running := by rw [← hs1]; exact setGen_self hgs
  have gp1 : GP s0.gens s1.gens := by rw [hg1]; exact gp.set hgn rfl
  have sz1 : gn < s1.gens.size := by rw [hg1, Array.size_setIfInBounds]; exact hlt
  generalize hcl : gLoop (.GeneratorExp elt [⟨tg, iter, ifs, 0⟩] scope gpos) it ce = cl
  -- the around of the generator's frame
  generalize hAg : A.in1.over cl [] = Ag
  have rg : Room k Ag := by
    rw [← hAg, ← hcl]
    refine ⟨hr.hd, ?_, ?_, ?_⟩
    · have := hr.dp; show A.depth + 0 + 1 + 3 * k + 5 < _; omega
    · have := hr.un; show A.units + 1 + 0 + 3 + 16 * k + 200 < _; omega
    · show pushGuards [] (pushGuards [] A.guards) = _
      rw [hr.gd]; rfl
  have fg : Ag.frames = some (ce :: X.stack) := by
    rw [← hAg, ← hcl]
    show pushEnvs [ce] (pushEnvs [] A.frames) = _
    rw [hfr]; rfl
  generalize hXg : X.gen Ag { s0 with gens := s1.gens } H0 ce fp = Xg
  have I1 : Inv Xg ((a, oa) :: pe) (wipe σ vs) H s1 := by
    have := I.regen (A' := Ag) (g1 := s1.gens) (g' := s1.gens) rg.hd fg (GP.refl gp1.bare)
    rw [← hXg]
    have e : ({ s with gens := s1.gens } : Shared) = s1 := by rw [← hs1]; rfl
    rw [e] at this
    exact this
  have pg' : PG Xg tg g := by rw [← hXg]; exact pg Ag _ rg
  have pt' : PTs Xg ifs tt := by rw [← hXg]; exact pt Ag _ rg
  have pl' : PE Xg elt te := by rw [← hXg]; exact pl Ag _ rg
  have eP : Xg.prog = X.prog := by rw [← hXg]
  have eW : Xg.w = X.w := by rw [← hXg]
  have eK : Xg.K = X.K := by rw [← hXg]
  have eC : Xg.calm = true := by rw [← hXg]
  have eA : Xg.A = Ag := by rw [← hXg]
  have eE : Xg.env = ce := by rw [← hXg]
  have eX : Xg.xe = fun _ _ => False := by rw [← hXg]
  have ex : Xg.ex = fp := by rw [← hXg]
  have epn : Xg.pn = [] := by rw [← hXg]
  have stat : ∀ {σ' : St} {H' : Hp} {s' : Shared}, Inv Xg ((a, oa) :: pe) σ' H' s' → (∀ b ∈ fp, H' b = none) → ∀ b ∈ fp, FpOk Xg ((a, oa) :: pe) H' b := fun {σ' H' s'} I' hn b hb =>
    ⟨hn b hb, (I'.ok.exf b (by rw [ex]; exact hb)).1, I'.ok.exfs b (by rw [ex]; exact hb), .inl (by rw [ex]; exact hb), fun x c e => (I'.ok.exf b (by rw [ex]; exact hb)).2 x c e, fun p hp => by
      rw [epn, List.nil_append] at hp
      rcases List.mem_cons.mp hp with rfl | hp
      · exact Ne.symm (hfa b hb).1
      · exact (hfa b hb).2 p hp⟩
  -- what a wake ends in
  let F : End → Shared → Prop := fun e s' => match e with
    | .ret r => r = .ok .next ∧ ∃ H', Inv Xg ((a, oa) :: pe) (wipe σ vs) H' s' ∧ QE H'
    | .susp u gd l kk c p fs => gd = false ∧ fs = [] ∧ c = cl ∧ kk (.send .none) = .pure (.again cl) ∧ ∃ y i' H', Inv Xg ((a, oa) :: pe) (wipe σ vs) H' s' ∧ RelV y u ∧ tn i' s'.heap ∧ (∀ b ∈ fp, H' b = none) ∧ QY y i' H'
  have loop : SegF (model X.prog X.w) A.in1 F cl ((model X.prog X.w).den cl) [] s1 := by
    rw [← hcl]
    refine sf_loop (fun n s' => ∃ i' H', Inv Xg ((a, oa) :: pe) (wipe σ vs) H' s' ∧ tn i' s'.heap ∧ (∀ b ∈ fp, H' b = none) ∧ gnext J g tt te (wipe σ vs) vs QY QE n i' H') hco ?_ m s1 ⟨i, H, I1, by rw [hh1]; exact st, nfp, hg⟩
    rintro n s5 ⟨i5, H5, I5, st5, n5, w5⟩
    have hA' : A.in1.over (.compLoop (.GeneratorExp elt [⟨tg, iter, ifs, 0⟩] scope gpos) 0 (.ref it) .none ce) [] = Ag := by rw [← hAg, ← hcl]
    rw [hA']
    cases n with
    | zero => exact w5.elim
    | succ n =>
      rcases w5 with ⟨stop, qq⟩ | ⟨go, step⟩
      · have td := T.done Xg eP eW eK eC i5 _ s5 _ H5 (fun _ _ => False) I5 (stat I5 n5) st5 stop
        rw [eA] at td
        refine thnF td fun r s6 ⟨hr', I6⟩ => ?_
        subst hr'
        exact ⟨rfl, H5, I6, qq⟩
      · have ti := T.item Xg eP eW eK eC i5 _ s5 _ H5 (fun _ _ => False) I5 (stat I5 n5) st5 go
        rw [eA] at ti
        refine thnF ti fun r s6 ⟨u, hr', h6⟩ => ?_
        subst hr'
        refine thnF h6 fun _ s7 ⟨x, H7, I7, r7, y7, st7, n7⟩ => ?_
        have I7' := I7.pinned (stat I7 n7) (T.obj _ _ st7)
        have q7 := pg' _ s7 _ H7 x u _ I7' r7 (step x H7 y7)
        rw [eP, eW, eA, eE, eX] at q7
        refine thnF q7 fun _ s8 ⟨σ8, H8, I8, hw8, q8⟩ => ?_
        have q8' := pt' _ s8 σ8 H8 _ I8 q8
        rw [eP, eW, eA, eE, eX] at q8'
        refine thnF q8' fun b s9 ⟨H9, I9, q9⟩ => ?_
        have fin : ∀ {s' : Shared} {H' : Hp}, Inv Xg (((a, oa) :: pe) ++ pinsAt fp s7.heap) σ8 H' s' → Inv Xg ((a, oa) :: pe) (wipe σ vs) H' s' ∧ tn (i5 + 1) s'.heap ∧ ∀ b ∈ fp, H' b = none := fun {s' H'} I' => by
          have pin' : ∀ b ∈ fp, ∀ o, s7.heap.get? b = some o → s'.heap.get? b = some o ∧ H' b = none := fun b hb o e =>
            let z := I'.pin (b, o) (List.mem_append_right _ (List.mem_append_right _ (mem_pinsAt hb e)))
            ⟨z.1, z.2.1⟩
          have hl : (wipe σ vs).length = σ8.length := by rw [← hw8, wipe_length]
          refine ⟨(I'.unpinned (pins := (a, oa) :: pe)).weak hl (fun j v e => ?_), T.keep _ _ _ st7 fun b hb o e => (pin' b hb o e).1, fun b hb => ?_⟩
          · rw [← hw8] at e
            exact (wipe_some e).1
          · obtain ⟨o, e, _⟩ := T.obj _ _ st7 b hb
            exact (pin' b hb o e).2
        cases b with
        | false =>
          simp only [Bool.false_eq_true, if_false] at q9 ⊢
          obtain ⟨f1, f2, f3⟩ := fin I9
          exact ⟨n, Nat.lt_succ_self _, i5 + 1, H9, f1, f2, f3, q9⟩
        | true =>
          simp only [if_true] at q9 ⊢
          have q9' := pl' _ s9 σ8 H9 _ I9 q9
          rw [eP, eW, eA, eE, eX] at q9'
          refine thnF q9' fun z s10 ⟨yv, H10, I10, r10, qy⟩ => ?_
          intro l kk p hk
          obtain ⟨f1, f2, f3⟩ := fin I10
          exact ⟨rfl, rfl, hcl, by rw [hk]; exact congrArg _ (congrArg _ hcl), yv, i5 + 1, H10, f1, r10, f2, f3, qy⟩
  have lim : s.heap.NoLimit := I.nolimit
  refine wpAny_pyNext_genF (F := F) hr.hd lim hr.depth isg hgs ?_ ?_
  · rw [hs1]
    rcases hat with rfl | ⟨kk, l, p, rfl, hk⟩
    · show SegF _ A.in1 F (gStart _ it ce) _ [] s1
      refine sf_start (by rw [← hcl] at loop; exact loop) fun A' Q' E' q => T.self A' i s1 Q' E' (by rw [hh1]; exact st) q
    · show SegF _ A.in1 F (gLoop _ it ce) (kk (.send .none)) [] s1
      rw [hk, hcl]
      exact sf_again (by rw [← hcl]; rfl) loop
  · intro e s2 hF
    have after : ∀ {H' : Hp}, Inv Xg ((a, oa) :: pe) (wipe σ vs) H' s2 → ∀ x : GenState, x.bare = true → (s2.setGen gn x).gens[gn]? = some x ∧ GP s0.gens (s2.setGen gn x).gens := fun {H'} I2 x hx => by
      have gp2 : GP s1.gens s2.gens := by
        have := I2.bare
        rw [← hXg] at this
        exact this
      have e2 : s2.gens[gn]? = some .running := (gp2.same gn sz1).trans run1
      exact ⟨setGen_self e2, (gp1.trans gp2).set hgn hx⟩
    cases e with
    | ret r =>
      obtain ⟨hr2, H2, I2, q2⟩ := hF
      refine ⟨rfl, hr2, fun h' kp => ?_⟩
      obtain ⟨_, gp2⟩ := after I2 .finished rfl
      have I3 : Inv (X.gen Ag { s0 with gens := s1.gens } H0 ce fp) ((a, oa) :: pe) (wipe σ vs) H2 { s2 with heap := h' } := by
        rw [hXg]; exact I2.kept (t' := s2.toks) kp
      have I4 := I3.regen (A' := Ag) (g1 := (s2.setGen gn .finished).gens) (g' := (s2.setGen gn .finished).gens) rg.hd fg (GP.refl gp2.bare)
      exact hE H2 _ _ _ q2 I4 gp2
    | susp u gd l kk c p fs =>
      obtain ⟨rfl, rfl, rfl, hk, y, i2, H2, I2, ry, st2, n2, q2⟩ := hF
      refine ⟨rfl, ?_⟩
      obtain ⟨ge, gp2⟩ := after I2 (.suspended kk l c p [] false) rfl
      have hget : s2.heap.get? a = some oa := (I2.pin (a, oa) (List.mem_append_right _ (List.mem_cons_self ..))).1
      have I4 := (show Inv (X.gen Ag { s0 with gens := s1.gens } H0 ce fp) ((a, oa) :: pe) (wipe σ vs) H2 s2 by rw [hXg]; exact I2).regen (A' := Ag) (g1 := (s2.setGen gn (.suspended kk l c p [] false)).gens) (g' := (s2.setGen gn (.suspended kk l c p [] false)).gens) rg.hd fg (GP.refl gp2.bare)
      refine hY y u i2 H2 _ ry q2 ⟨hoa _ hget, ⟨_, ge, .inr ⟨kk, l, p, ?_, ?_⟩⟩, ⟨_, _, I4⟩, st2, n2, gp2⟩
      · rw [hcl]
      · rw [hcl]; exact hk
end
end L2
set_option maxHeartbeats 2000000
namespace L2
open PySem PySem.Spec PyProof.Rows
open Q2 (CodeT)
/-- the module of the built-in names -/
structure BMk (K : PySem.W.Frag) (mg : Str → Option Value) : Prop where
  mod : ∃ bm ob, mg "__builtins__" = some (.ref bm) ∧ bm ≠ builtinsNs ∧ K.lookup bm = some ob ∧ ob.cls = .type "module" ∧ ob.dict = some builtinsNs ∧ ob.data = .plain
theorem getD_of {vs : Array Value} {i : Nat} {v : Value} (h : vs[i]? = some v) : vs.getD i .none = v := by
  simp [Array.getD_eq_getD_getElem?, h]
section
variable {X : Cx} {pins : List (Addr × Obj)} {σ : St} {H : Hp} {s : Shared} {E : Value → Shared → Prop}
theorem Inv.tbl {P : Addr} {ps more : Array Value} {h' : Heap} {t' : Nat} (I : Inv X pins σ H s) (hP : H P = some (.tbl ps)) (kp : ∀ b o, b ≠ P → s.heap.get? b = some o → h'.get? b = some o)
    (hP' : h'.get? P = some { cls := .none, data := .fields (ps ++ more) }) (tr : TriplesOk (ps ++ more).toList) : Inv X pins σ (upd H P (.tbl (ps ++ more))) { s with heap := h', toks := t' } := by
  have ne : ∀ b, H b = none → b ≠ P := fun b n z => by rw [z, hP] at n; cases n
  have neT : ∀ b o, H b = some o → (∀ ps, o ≠ .tbl ps) → b ≠ P := fun b o n hn z => by rw [z, hP] at n; cases n; exact hn _ rfl
  refine I.un (t' := t') ⟨fun b o e n _ _ => kp b o (ne b n) e, fun b o e n _ _ => ⟨o.slots, kp b o (ne b n) e⟩, fun b o e n _ => by rw [upd_ne (ne b n)]; exact n, fun b o e _ => ?_, fun b xs e => by rw [upd_ne (neT b _ e fun _ z => nomatch z)]; exact e, fun b o u e => by rw [upd_ne (neT b _ e fun _ z => nomatch z)]; exact e, fun b qs e => ?_⟩ fun b o e => ?_
  · by_cases hb : b = P
    · subst hb; exact ⟨_, hP'⟩
    · exact ⟨o, kp b o hb e⟩
  · by_cases hb : b = P
    · subst hb
      rw [hP] at e; cases e
      exact ⟨more, upd_same⟩
    · exact ⟨#[], by rw [upd_ne hb, e]; simp⟩
  · by_cases hb : b = P
    · subst hb
      rw [upd_same] at e; cases e
      exact ⟨hP', tr⟩
    · rw [upd_ne hb] at e
      refine (I.hok b o e).stay (fun c v hc q => kp c v ?_ q) (fun c q => by rw [upd_ne (neT c _ q fun _ z => nomatch z)]; exact q) fun c xs q => by rw [upd_ne (neT c _ q fun _ z => nomatch z)]; exact q
      rcases hc with rfl | hc
      · exact hb
      · exact neT c _ hc fun _ z => nomatch z
theorem upd_self {H : Hp} {P : Addr} {o : HO} (h : H P = some o) : upd H P o = H := by
  funext b
  by_cases e : b = P
  · subst e; rw [upd_same, h]
  · rw [upd_ne e]
/-- the code of a generator expression: the table may grow -/
theorem genCode_ok {c P : Addr} {ps : Array Value} {pos : Pos} {q : Str} {scope : Scope} {Q : Value → Shared → Prop} (I : Inv X pins σ H s) (hc : X.env.code = .ref c) (C : CodeT X.K c P) (hP : H P = some (.tbl ps))
    (h : ∀ code more h' tk, Inv X pins σ (upd H P (.tbl (ps ++ more))) { s with heap := h', toks := tk } → (∀ b o, b ≠ P → s.heap.get? b = some o → h'.get? b = some o) → s.heap.objs.size ≤ h'.objs.size → Q code { s with heap := h', toks := tk }) :
    wpAny (model X.prog X.w) X.A (genexprCode X.env pos q scope) Q E s := by
  obtain ⟨o, vs, file, tf, flags, tg, inF, text, tt, lk, hcls, hd, h11, h18, h7, h9, h10⟩ := C.has
  have ho : s.heap.get? c = some o := I.kIn c o lk
  obtain ⟨hPo, htr⟩ := I.hok P _ hP
  have hne : c ≠ P := fun z => by
    have n := (I.bs c o (I.ok.mod.kin c o lk)).2
    rw [z, hP] at n; cases n
  have hok : s.heap.IsCode c P ps := ⟨o, vs, file, tf, flags, tg, inF, text, tt, _, ho, hd, getD_of h11, getD_of h18, getD_of h7, getD_of h9, getD_of h10, hPo, rfl, htr, hne⟩
  cases hnf : codeAmong pos ps.toList with
  | some cv =>
    unfold genexprCode codeAt
    rw [hc, if_neg (show ¬ ((Value.ref c == Value.none) = true) from Bool.false_ne_true)]
    refine wpAny_bind (wpAny_fieldsOf ho hd ?_)
    rw [getD_of h11]
    refine wpAny_bind (wpAny_fieldsOf hPo rfl ?_)
    rw [hnf]
    refine wpAny_pure (h cv #[] s.heap s.toks ?_ (fun _ _ _ e => e) (Nat.le_refl _))
    have e : upd H P (.tbl (ps ++ #[])) = H := by rw [Array.append_empty]; exact upd_self hP
    rw [e]; exact I
  | none =>
    refine wpAny_genexprCodeX hc hok ⟨⟨o, vs, ho, hcls, hd, h11⟩, hPo⟩ hnf fun c' h' tk hx hge hlt hcode _ htab _ => ?_
    obtain ⟨_, _, _, _, _, _, _, _, _, op', _, _, _, _, _, _, _, hop', hpd', htr', _⟩ := hcode
    refine h _ _ h' tk (I.tbl hP hx htab.2 ?_) hx (Nat.le_trans hge (Nat.le_of_lt hlt))
    have e : op'.data = .fields (ps ++ #[rawInt pos.line, rawInt pos.col, .ref c']) := hpd'
    exact htr'
theorem builtins_ok {Q : Addr → Shared → Prop} {r : Addr} (I : Inv X pins σ H s) (B : BMk X.K X.mg) (h : Q builtinsNs s) : wpAny (model X.prog X.w) X.A (builtinsFor X.env.globals r) Q E s := by
  obtain ⟨bm, ob, h1, h2, h3, h4, h5, h6⟩ := B.mod
  exact wpAny_builtinsFor (by rw [I.ok.glob]; exact I.mod.glob.keeps I.bk) h1 h2 (I.kIn bm ob h3) h4 h5 h6 h
/-- the generator is made -/
theorem gen_make {elt tg iter : Expr} {ifs : List Expr} {scope : Scope} {own : List (Str × Nat)} {gpos : Pos} {wi : TI} {c P : Addr} {R : It → Hp → Prop} {Q : Value → Shared → Prop}
    (I : Inv X pins σ H s) (hi : PI X tg iter wi) (ok : BlkOk X.N X.env.scope scope own) (hcell : ∀ y ∈ scope.names, y.2 ≠ .cell) (h0 : scope.names.lookup (".0" : Str) = some NameKind.local) (hco : scope.isCoroutine = false) (hN : X.N.Nodup)
    (hc : X.env.code = .ref c) (C : CodeT X.K c P) (B : BMk X.K X.mg) (hroom : X.A.depth < recursionLimit) (hs : ∀ x, genFold iter X.env x = pure x)
    (h : wi σ H fun J H1 => ∃ ps, H1 P = some (.tbl ps) ∧ ∀ more, R J (upd H1 P (.tbl (ps ++ more))))
    (hQ : ∀ (J : It) (it : Addr) (fp : List Addr) (tn : Nat → Heap → Prop) (H1 : Hp) (s4 s5 : Shared) (a : Addr) (oa : Obj) (code : Value), Turn X.prog X.w X.K tg J fp it tn → Inv X pins σ H1 s4 → (∀ b ∈ fp, FpOk X pins H1 b) → R J H1 →
      GRest X s4 H1 (.GeneratorExp elt [⟨tg, iter, ifs, 0⟩] scope gpos) it (gEnv X scope s4.heap.objs.size code) fp tn (wipe σ (own.map (·.2))) a s4.gens.size oa [] 0 H1 s5 →
      (∀ h : Heap, h.get? a = some oa → h.IsGen a s4.gens.size) → s4.heap.objs.size < a → (∀ b ∈ fp, b < s4.heap.objs.size) → s5.heap.objs.size = a + 1 → Q (.ref a) s5) :
    wpAny (model X.prog X.w) X.A (eval (.GeneratorExp elt [⟨tg, iter, ifs, 0⟩] scope gpos) X.env) Q X.xe s := by
  have hfree : ∀ y ∈ scope.names, y.2 = .free → ∃ c, X.env.cells.lookup y.1 = some c := fun y hy e => by
    rcases ok.free y hy e with k | k
    · exact I.ok.has _ (.inl k)
    · exact I.ok.has _ (.inr k)
  refine wpAny_GeneratorExp_make hco (closure_ok hfree) hcell h0 ok.kind hroom (thn (hi pins s σ H _ I h) fun xv s1 hx => thn hx fun itv s2 h2 => ?_) hs
  obtain ⟨it, fp, tn, J, H2, e, I2, T, st2, f2, ps, hP, q⟩ := h2
  subst e
  refine ⟨I2.nolimit, genCode_ok I2 hc C hP fun code more h3 tk3 I3 kp3 sz3 => ?_⟩
  refine builtins_ok I3 B ?_
  generalize hH3 : upd H2 P (.tbl (ps ++ more)) = H3 at I3
  generalize hs4 : ({ s2 with heap := h3, toks := tk3 } : Shared) = s4 at I3 ⊢
  have q3 : R J H3 := by rw [← hH3]; exact q more
  intro h' hn' hs'
  have nP : ∀ b ∈ fp, b ≠ P := fun b hb z => by
    have n := (f2 b hb).1
    rw [z, hP] at n; cases n
  have f3 : ∀ b ∈ fp, FpOk X pins H3 b := fun b hb => ⟨by rw [← hH3, upd_ne (nP b hb)]; exact (f2 b hb).1, (f2 b hb).2⟩
  have sz2 : ∀ b ∈ fp, b < s4.heap.objs.size := fun b hb => by
    obtain ⟨o, e, _⟩ := T.obj _ _ st2 b hb
    rw [← hs4]
    exact Nat.lt_of_lt_of_le (Heap.lt_size e) sz3
  have st4 : tn 0 s4.heap := T.keep _ _ _ st2 fun b hb o e => by rw [← hs4]; exact kp3 b o (nP b hb) e
  have hsz : h'.objs.size = s4.heap.objs.size + 1 := by rw [hs'.1, Heap.size_push]
  have keep' : ∀ b o, s4.heap.get? b = some o → h'.get? b = some o := fun b o e => hs'.extBut b o (Nat.ne_of_lt (Heap.lt_size e)) (Heap.get?_push_of_some _ e)
  generalize hoa : ({ cls := .type "generator", data := .fields #[.int s4.gens.size 0, .str "<genexpr>" (s4.toks + 1), .str (X.env.qual ++ "<genexpr>") (s4.toks + 1 + 1)] } : Obj) = oa
  have hga : (h'.push oa).get? h'.objs.size = some oa := by rw [← hoa]; exact Heap.get?_push_size _ rfl
  have isG : ∀ h : Heap, h.get? h'.objs.size = some oa → h.IsGen h'.objs.size s4.gens.size := fun h e => ⟨oa, _, _, e, by rw [← hoa], by rw [← hoa], by rw [← hoa]⟩
  have kp5 : ∀ b o, s4.heap.get? b = some o → (h'.push oa).get? b = some o := fun b o e => Heap.get?_push_of_some _ (keep' b o e)
  have bare5 : AllBare (s4.gens.push (.fresh (gStart (.GeneratorExp elt [⟨tg, iter, ifs, 0⟩] scope gpos) it (gEnv X scope s4.heap.objs.size code)))) := fun y hy => by
    rcases Array.mem_push.mp hy with hy | rfl
    · exact I3.bare.bare y hy
    · rfl
  have gp5 : GP s4.gens (s4.gens.push (.fresh (gStart (.GeneratorExp elt [⟨tg, iter, ifs, 0⟩] scope gpos) it (gEnv X scope s4.heap.objs.size code)))) :=
    ⟨bare5, by rw [Array.size_push]; exact Nat.le_succ _, fun k hk => by rw [Array.getElem?_push]; rw [if_neg (Nat.ne_of_lt hk)]⟩
  have I5 := gen_start (X := X) (scope := scope) (own := own) (fp := fp) (A' := ⟨none, 0, some (gEnv X scope s4.heap.objs.size code :: X.stack), none, 0⟩) (code := code) (g0 := s4.gens.push (.fresh (gStart (.GeneratorExp elt [⟨tg, iter, ifs, 0⟩] scope gpos) it (gEnv X scope s4.heap.objs.size code)))) (h5 := h'.push oa) (tk := s4.toks + 1 + 1 + 1)
    I3 ok hcell hN (fun b hb => ⟨f3 b hb, sz2 b hb⟩) rfl rfl kp5 (hn'.push _) (GP.refl bare5)
  have ha0 : H3 h'.objs.size = none := I3.hok.fresh (by rw [hsz]; exact Nat.le_succ _)
  have hge : s4.heap.objs.size ≤ h'.objs.size := by rw [hsz]; exact Nat.le_succ _
  have I6 := I5.pins_of (pins' := [(h'.objs.size, oa)]) fun p hp => by
    obtain rfl : p = (h'.objs.size, oa) := List.mem_singleton.mp hp
    refine ⟨hga, ha0, ?_, fun z => ?_, fun v z => ?_⟩
    · show h'.objs.size ≠ s4.heap.objs.size
      rw [hsz]; exact Nat.succ_ne_self _
    · rcases List.mem_cons.mp (I3.stkSub _ z) with z | z
      · have z : h'.objs.size = X.env.locals := z
        exact absurd (Nat.lt_of_lt_of_le I3.lt hge) (by rw [z]; exact Nat.lt_irrefl _)
      · exact I3.nofs hge z
    · rw [← hoa] at z; cases z
  refine hQ J it fp tn H3 s4 _ h'.objs.size oa code T I3 f3 q3 ⟨isG _ hga, ⟨_, Array.getElem?_push_size .., .inl rfl⟩, ⟨_, _, I6⟩, T.keep _ _ _ st4 fun b _ o e => kp5 b o e, fun b hb => (f3 b hb).1, gp5⟩ isG (by rw [hsz]; exact Nat.lt_succ_self _) sz2 (by show (h'.push oa).objs.size = _; rw [Heap.size_push])
end
end L2
set_option maxHeartbeats 2000000
namespace PySem
open Sem (wp)
open AutoSeq1 (wpAny_loadPart')
section
variable {prog : Program} {w : World} {A : Around} {E : Value → Shared → Prop}
theorem all_loopG {R : Result → Shared → Prop} {I : Addr} (J : Nat → Shared → Prop)
    (step : ∀ n s, J n s → wpAny (model prog w) A.in1 (pyNext (.ref I)) (fun r s' => match r with
      | none => R (.ok (.ret (.bool true))) s'
      | some u => ∃ b, u = .bool b ∧ (if b = true then ∃ m, m < n ∧ J m s' else R (.ok (.ret (.bool false))) s')) (fun e s' => R (.error e) s') s) :
    ∀ (n : Nat) (s : Shared), J n s → codeAny (model prog w) A (.builtin "all.loop" ⟨[.ref I], []⟩) R s := by
  intro n
  refine Nat.strongRecOn n fun n before => ?_
  intro s j
  apply codeAny_builtin F.entry_all_loop
  rw [Around.under_plainId F.plain_all_loop]
  change wpAny _ _ (pyNext (.ref I) >>= _) _ _ _
  apply wpAny_bind
  refine wpAny_mono (step n s j) ?turn fun _ _ e => e
  rintro (_ | _) s' told
  · wp_walk
    exact told
  · obtain ⟨yes, rfl, told⟩ := told
    cases s'
    cases yes
    · wp_walk
      exact told
    · wp_walk
      obtain ⟨m, less, j'⟩ := told
      exact ⟨plainId_quiet F.plain_all_loop _, before m less _ j'⟩
theorem call_all_G {s : Shared} {I : Addr} {Q : Value → Shared → Prop} (J : Nat → Shared → Prop) (self : ∀ Q' E', Q' (.ref I) s → wpAny (model prog w) A.in1 (pyIter (.ref I)) Q' E' s)
    (step : ∀ n s, J n s → wpAny (model prog w) A.in1 (pyNext (.ref I)) (fun r s' => match r with
      | none => Q (.bool true) s'
      | some u => ∃ b, u = .bool b ∧ (if b = true then ∃ m, m < n ∧ J m s' else Q (.bool false) s')) (fun _ _ => False) s) (n : Nat) (h : J n s) :
    wpAny (model prog w) A (call (.builtin "all") [.ref I]) Q E s := by
  refine call_function_tree F.kind_all F.plain_all F.entry_all (F.args_all1 _) ?_
  unfold Builtin.«all»
  refine wpAny_bind (m := oneArg "all" _) (wpAny_pure ?_)
  refine wpAny_bind (self _ _ ?_)
  refine wpAny_pure ⟨plainId_quiet F.plain_all_loop _, all_loopG J (fun n s hJ => wpAny_mono (step n s hJ) (fun r s' h => ?_) fun _ _ e => e.elim) n s h⟩
  cases r with
  | none => exact h
  | some u => exact h
end
end PySem
set_option maxHeartbeats 2000000
namespace L2
open PySem PySem.Spec PyProof.Rows
open Q2 (CodeT)
def allW (J : It) (g : TG) (tt : TT) (te : TE) (σw : St) (vs : List Nat) (Q : VK) : Nat → Nat → Hp → Prop
  | 0, _, _ => False
  | n + 1, i, H => ∃ m, gnext J g tt te σw vs (fun y i' H' => ∃ c, y = .bl c ∧ (if c = true then allW J g tt te σw vs Q n i' H' else Q (.bl false) H')) (fun H' => Q (.bl true) H') m i H
def tAllG (P : Addr) (wi : TI) (g : TG) (tt : TT) (te : TE) (vs : List Nat) : TE := fun σ H Q => wi σ H fun J H1 => ∃ ps, H1 P = some (.tbl ps) ∧ ∀ more, ∃ n, allW J g tt te (wipe σ vs) vs Q n 0 (upd H1 P (.tbl (ps ++ more)))
section
variable {X : Cx} {elt tg iter : Expr} {ifs : List Expr} {scope : Scope} {own : List (Str × Nat)} {gpos p pos : Pos} {wi : TI} {g : TG} {tt : TT} {te : TE} {c P : Addr} {k : Nat}
theorem pe_allG (hr : Room (k + 2) X.A) (hi : PI X tg iter wi) (ok : BlkOk X.N X.env.scope scope own) (hN : X.N.Nodup) (hc : X.env.code = .ref c) (C : CodeT X.K c P) (B : BMk X.K X.mg)
    (pg : ∀ (A' : Around) (s' : Shared) (H' : Hp) (L : Addr) (code : Value) (fp : List Addr), Room k A' → PG (X.gen A' s' H' (gEnv X scope L code) fp) tg g)
    (pt : ∀ (A' : Around) (s' : Shared) (H' : Hp) (L : Addr) (code : Value) (fp : List Addr), Room k A' → PTs (X.gen A' s' H' (gEnv X scope L code) fp) ifs tt)
    (pl : ∀ (A' : Around) (s' : Shared) (H' : Hp) (L : Addr) (code : Value) (fp : List Addr), Room k A' → PE (X.gen A' s' H' (gEnv X scope L code) fp) elt te)
    (hg : Gl X "all") (hm : X.mg "all" = none)
    (hcell : ∀ y ∈ scope.names, y.2 ≠ .cell := by decide) (h0 : scope.names.lookup (".0" : Str) = some NameKind.local := by rfl) (hco : scope.isCoroutine = false := by rfl) (hs : ∀ x, genFold iter X.env x = pure x := by intro _; rfl)
    (he : starEach [.GeneratorExp elt [⟨tg, iter, ifs, 0⟩] scope gpos] X.env = (false, eval (.GeneratorExp elt [⟨tg, iter, ifs, 0⟩] scope gpos) X.env) :: starEach [] X.env := by rfl) (hpl : (backTo pos (starEach [] X.env)).any (·.1) = false := by rfl) :
    PE X (.Call (.Name "all" p) [.GeneratorExp elt [⟨tg, iter, ifs, 0⟩] scope gpos] [] pos) (tAllG P wi g tt te (own.map (fun (x : Str × Nat) => x.2))) := by
  intro pins s σ H Q I h
  have hv : bootBuiltins "all" = some (.builtin "all") := by decide +kernel
  refine wpAny_Call_Name_kw (ld_blt I hg hm hv ?_)
  refine PyProof.Rows.callWith_builtin1 ?_ he hpl
  rw [he]
  show wpAny _ _ (spliced ((false, eval (.GeneratorExp elt [⟨tg, iter, ifs, 0⟩] scope gpos) X.env) :: backTo pos (starEach [] X.env))) _ _ s
  refine Calls.spliced_cons (gen_make (R := fun J H1 => ∃ n, allW J g tt te (wipe σ (own.map (fun (x : Str × Nat) => x.2))) (own.map (fun (x : Str × Nat) => x.2)) Q n 0 H1) I hi ok hcell h0 hco hN hc C B hr.depth hs h fun J it fp tn H1 s4 s5 a oa code T I4 f4 r4 GR isG ha sz4 hs5 => ?_)
  refine Calls.spliced_nil ?_
  obtain ⟨n, w⟩ := r4
  have hfa : ∀ b ∈ fp, b ≠ a ∧ ∀ p ∈ ([] : List (Addr × Obj)), p.1 ≠ b := fun b hb => ⟨Nat.ne_of_lt (Nat.lt_trans (sz4 b hb) ha), fun p hp => absurd hp List.not_mem_nil⟩
  refine call_all_G (fun n s' => ∃ i H', GRest X s4 H1 (.GeneratorExp elt [⟨tg, iter, ifs, 0⟩] scope gpos) it (gEnv X scope s4.heap.objs.size code) fp tn (wipe σ (own.map (fun (x : Str × Nat) => x.2))) a s4.gens.size oa [] i H' s' ∧ allW J g tt te (wipe σ (own.map (fun (x : Str × Nat) => x.2))) (own.map (fun (x : Str × Nat) => x.2)) Q n i H')
    (fun Q' E' q => wpAny_pyIter_gen GR.isg q) ?_ n ⟨0, H1, GR, w⟩
  rintro n s6 ⟨i, H6, G6, w6⟩
  cases n with
  | zero => exact w6.elim
  | succ n =>
    obtain ⟨m, w6⟩ := w6
    refine gen_next (k := k) G6 (Nat.le_refl _) hfa T w6 hr.in1 I4.ok.frames hco (fun A' g0 r => pg A' _ H1 _ code fp r) (fun A' g0 r => pt A' _ H1 _ code fp r) (fun A' g0 r => pl A' _ H1 _ code fp r) isG (fun y u i' H' s' ry qy G' => ?_) fun H' s' A0 g0 q I' gp => ?_
    · obtain ⟨c, rfl, qy⟩ := qy
      obtain rfl : u = Value.bool c := ry
      refine ⟨c, rfl, ?_⟩
      cases c with
      | true => simp only [if_true] at qy ⊢; exact ⟨n, Nat.lt_succ_self _, i', H', G', qy⟩
      | false =>
        simp only [Bool.false_eq_true, if_false] at qy ⊢
        obtain ⟨A0, g0, I'⟩ := G'.inv
        exact ⟨.bl false, H', I4.ungen I' G'.gp f4, rfl, qy⟩
    · exact ⟨.bl true, H', I4.ungen I' gp f4, rfl, q⟩
theorem GRest.pin {s0 : Shared} {H0 : Hp} {e : Expr} {it : Addr} {ce : Env} {fp : List Addr} {tn : Nat → Heap → Prop} {σw : St} {a g : Nat} {oa : Obj} {pe : List (Addr × Obj)} {i : Nat} {H : Hp} {s : Shared} {S : Addr} {h' : Heap} {oS : Obj} {J : It} {tg : Expr}
    (G : GRest X s0 H0 e it ce fp tn σw a g oa pe i H s) (T : Turn X.prog X.w X.K tg J fp it tn) (hS0 : s0.heap.objs.size ≤ S) (hSa : S ≠ a) (hSL : S ≠ ce.locals) (hSf : S ∉ frs X.stack) (hSn : H S = none) (hfS : ∀ b ∈ fp, b ≠ S)
    (hcS : ∀ x c, ce.cells.lookup x = some c → c ≠ S) (kp : ∀ b o, b ≠ S → s.heap.get? b = some o → h'.get? b = some o) (hS : h'.get? S = some oS) (hd : ∀ v, oS.data ≠ .cell v) : GRest X s0 H0 e it ce fp tn σw a g oa [(S, oS)] i H { s with heap := h' } := by
  obtain ⟨isg, rest, ⟨A0, g0, I⟩, st, nfp, gp⟩ := G
  have I1 := I.pins_of (pins' := [(a, oa)]) fun p hp => by
    obtain rfl : p = (a, oa) := List.mem_singleton.mp hp
    exact I.pin (a, oa) (List.mem_append_right _ (List.mem_cons_self ..))
  have I2 := I1.turned (t' := s.toks) kp hSn hSL (.inr hS0) hcS fun p hp => by
    have hp : p ∈ ([] : List (Addr × Obj)) ++ [(a, oa)] := hp
    obtain rfl : p = (a, oa) := List.mem_singleton.mp hp
    exact Ne.symm hSa
  refine ⟨?_, rest, ⟨A0, g0, I2.pins_of fun p hp => ?_⟩, T.keep _ _ _ st fun b hb o e => kp b o (hfS b hb) e, nfp, gp⟩
  · obtain ⟨o, nm, qn, ho, r⟩ := isg
    exact ⟨o, nm, qn, kp a o (Ne.symm hSa) ho, r⟩
  · rcases List.mem_cons.mp hp with rfl | hp
    · exact I2.pin (a, oa) (List.mem_append_right _ (List.mem_cons_self ..))
    · obtain rfl : p = (S, oS) := List.mem_singleton.mp hp
      exact ⟨hS, hSn, hSL, hSf, hd⟩
end
end L2
set_option maxHeartbeats 2000000
namespace Q2
open PySem L2
/-! ### all(.. for ..), tuple(.. for ..) -/
open Classical in
noncomputable def allL (G : Store → Prop) (tg : Tg) (tt : EvT) (te : Ev) (σ : Sg) : List D → Store → Option (D × Store)
  | [], S => if G S then some (.bl true, S) else none
  | d :: ds, S => if G S then (setD tg d σ).bind fun σ2 => (tt σ2 S).bind fun b => if b.1 = true then (te σ2 b.2).bind fun y => (match y.1 with
      | .bl true => allL G tg tt te σ ds y.2
      | .bl false => some (.bl false, y.2)
      | _ => none) else allL G tg tt te σ ds b.2 else none
noncomputable def evAllG (it : EvI) (tg : Tg) (tt : EvT) (te : Ev) (vs : List Nat) : Ev := fun σ S => (it σ S).bind fun p => allL p.2.2 tg tt te (wipeD σ vs) p.1 p.2.1
theorem Ex.tbl {K H ρ P ps qs} (h : H P = some (.tbl ps)) : Ex K H ρ (upd H P (.tbl qs)) ρ := ⟨fun a xs q => by
  show upd H P (.tbl qs) a = _
  rw [upd_ne (ne_of q h (by intro z; cases z))]; exact q, fun _ _ h => h⟩
theorem Ok.tbl {K H ρ S P ps qs} (ok : Ok K H ρ S) (h : H P = some (.tbl ps)) : Ok K (upd H P (.tbl qs)) ρ S := by
  refine ⟨ok.len, ok.sep, fun n a c e1 e2 => ?_, fun P' t => ?_, ok.sepD⟩
  · have q := ok.cell n a c e1 e2
    cases c with
    | lst ds => obtain ⟨vs, q1, q2⟩ := q; exact ⟨vs, by rw [upd_ne (ne_of q1 h (by intro z; cases z))]; exact q1, q2.mono (Ex.tbl h)⟩
    | dk kvs => obtain ⟨vs, q1, q0, q2⟩ := q; exact ⟨vs, by rw [upd_ne (ne_of q1 h (by intro z; cases z))]; exact q1, q0, q2.mono (Ex.tbl h)⟩
    | dt kvs => obtain ⟨vs, q1, q0, q2⟩ := q; exact ⟨vs, by rw [upd_ne (ne_of q1 h (by intro z; cases z))]; exact q1, q0, q2.mono (Ex.tbl h)⟩
    | ro ds =>
      obtain ⟨vs, q1, q2⟩ := q
      refine ⟨vs, q1.mono (Ex.tbl h), ?_⟩
      rcases q2 with ⟨o, q2⟩ | q2
      · exact .inl ⟨o, by rw [upd_ne (ne_of q2 h (by intro z; cases z))]; exact q2⟩
      · exact .inr q2
  · obtain ⟨rs, q⟩ := ok.tab P' t
    by_cases e : P' = P
    · subst e; exact ⟨qs, upd_same⟩
    · exact ⟨rs, by rw [upd_ne e]; exact q⟩
theorem t_all {K : PySem.W.Frag} {P : Addr} (hP : Tab K P) {it : EvI} {tg : Tg} {tt : EvT} {te : Ev} {vs : List Nat} (hv : ∀ i ∈ tg.ix, i ∈ vs) : ∀ (σ : L2.St) (H : Hp) (Q : VK), T K (evAllG it tg tt te vs) σ H Q → tAllG P (TId K it) (gT K tg) (TTd K tt) (T K te) vs σ H Q := fun σ H Q h => by
  obtain ⟨σd, S, ρ, d, S', so, ok, e, k⟩ := h
  obtain ⟨⟨items, S1, G⟩, e1, e⟩ := Option.bind_eq_some_iff.mp e
  refine ⟨σd, S, ρ, items, S1, G, so, ok, e1, fun J H1 ρ1 x1 ok1 IO => ?_⟩
  obtain ⟨ps, hp⟩ := ok1.tab P hP
  refine ⟨ps, hp, fun more => ?_⟩
  have claim : ∀ (ds : List D) (n i : Nat) (H3 : Hp) (ρ3 : List Addr) (S3 : Store), items.drop i = ds → ds.length ≤ n → Ex K H1 ρ1 H3 ρ3 → Ok K H3 ρ3 S3 → allL G tg tt te (wipeD σd vs) ds S3 = some (d, S') →
      gnext J (gT K tg) (TTd K tt) (T K te) (L2.wipe σ vs) vs (fun y i' H' => ∃ c, y = .bl c ∧ (if c = true then allW J (gT K tg) (TTd K tt) (T K te) (L2.wipe σ vs) vs Q n i' H' else Q (.bl false) H')) (fun H' => Q (.bl true) H') (ds.length + 1) i H3 := by
    intro ds
    induction ds with
    | nil =>
      intro n i H3 ρ3 S3 hd hn x3 ok3 e3
      have hi : items.length ≤ i := List.drop_eq_nil_iff.mp hd
      unfold allL at e3
      by_cases hG : G S3
      · rw [if_pos hG] at e3
        cases e3
        exact .inl ⟨IO.stop i H3 ρ3 _ x3 ok3 hG hi, k _ H3 ρ3 (x1.trans x3) ok3 (.bl true)⟩
      · rw [if_neg hG] at e3; cases e3
    | cons d0 ds ih =>
      intro n i H3 ρ3 S3 hd hn x3 ok3 e3
      have soW : Sok K H3 ρ3 (wipeD σd vs) (L2.wipe σ vs) := (so.mono (x1.trans x3)).wipe vs
      have hlt : i < items.length := by
        rcases Nat.lt_or_ge i items.length with h | h
        · exact h
        · rw [List.drop_eq_nil_of_le h] at hd; cases hd
      rw [List.drop_eq_getElem_cons hlt] at hd
      have hd0 : items[i] = d0 := (List.cons.inj hd).1
      have hd1 : items.drop (i + 1) = ds := (List.cons.inj hd).2
      unfold allL at e3
      by_cases hG : G S3
      · rw [if_pos hG] at e3
        obtain ⟨σ4, f1, e3⟩ := Option.bind_eq_some_iff.mp e3
        obtain ⟨⟨b, S4⟩, f2, e3⟩ := Option.bind_eq_some_iff.mp e3
        obtain ⟨go, yl⟩ := IO.go i H3 ρ3 S3 d0 x3 ok3 hG (by rw [← hd0]; simp [hlt])
        refine .inr ⟨go, fun v H4 y => ?_⟩
        obtain ⟨x4, ok4, r4⟩ := yl v H4 y
        refine gT_ok f1 r4 (soW.mono x4) fun σ5 so5 hw => ⟨?_, ?_⟩
        · rw [hw vs hv, wipe_wipe]
        refine ⟨σ4, S3, ρ3, b, S4, so5, ok4, f2, fun H5 ρ5 x5 ok5 => ?_⟩
        have x35 : Ex K H1 ρ1 H5 ρ5 := x3.trans (x4.trans x5)
        cases b with
        | true =>
          dsimp only
          rw [if_pos rfl] at e3 ⊢
          obtain ⟨⟨yd, S5⟩, f3, e3⟩ := Option.bind_eq_some_iff.mp e3
          refine ⟨σ4, S4, ρ5, yd, S5, so5.mono x5, ok5, f3, fun yv H6 ρ6 x6 ok6 r6 => ?_⟩
          match yd, r6, e3 with
          | .bl true, r6, e3 =>
            cases r6
            refine ⟨true, rfl, ?_⟩
            rw [if_pos rfl]
            obtain ⟨m, rfl⟩ : ∃ m, n = m + 1 := ⟨n - 1, by rw [List.length_cons] at hn; omega⟩
            exact ⟨_, ih m (i + 1) H6 ρ6 S5 hd1 (by rw [List.length_cons] at hn; omega) (x35.trans x6) ok6 e3⟩
          | .bl false, r6, e3 =>
            cases r6
            refine ⟨false, rfl, ?_⟩
            rw [if_neg Bool.false_ne_true]
            have e3 : some (D.bl false, S5) = some (d, S') := e3
            cases e3
            exact k _ H6 ρ6 (x1.trans (x35.trans x6)) ok6 (.bl false)
        | false =>
          dsimp only
          rw [if_neg Bool.false_ne_true] at e3 ⊢
          exact ih n (i + 1) H5 ρ5 S4 hd1 (by rw [List.length_cons] at hn; omega) x35 ok5 e3
      · rw [if_neg hG] at e3; cases e3
  exact ⟨items.length + 1, _, claim items items.length 0 _ ρ1 S1 rfl (Nat.le_refl _) (Ex.tbl hp) (ok1.tbl hp) e⟩
section
variable {X : Cx} {elt tgE iter : Expr} {ifs : List Expr} {scope : Scope} {gpos p pos : Pos} {it : EvI} {tg : Tg} {tt : EvT} {te : Ev} {c P : Addr} {k : Nat}
theorem q_allG (own : List (Str × Nat)) (hr : Room (k + 2) X.A) (hi : QI X tgE iter it) (ok : BlkOk X.N X.env.scope scope own) (hN : X.N.Nodup) (hc : X.env.code = .ref c) (C : CodeT X.K c P) (hP : X.K.lookup P = none) (B : BMk X.K X.mg)
    (pg : ∀ (A' : Around) (s' : Shared) (H' : Hp) (L : Addr) (code : Value) (fp : List Addr), Room k A' → QG (X.gen A' s' H' (gEnv X scope L code) fp) tgE tg)
    (pt : ∀ (A' : Around) (s' : Shared) (H' : Hp) (L : Addr) (code : Value) (fp : List Addr), Room k A' → QTs (X.gen A' s' H' (gEnv X scope L code) fp) ifs tt)
    (pl : ∀ (A' : Around) (s' : Shared) (H' : Hp) (L : Addr) (code : Value) (fp : List Addr), Room k A' → QE (X.gen A' s' H' (gEnv X scope L code) fp) elt te)
    (hm : X.mg "all" = none) (hv : ∀ i ∈ tg.ix, i ∈ own.map (fun (x : Str × Nat) => x.2)) (hg : Gl X "all" := by rfl)
    (hcell : ∀ y ∈ scope.names, y.2 ≠ .cell := by decide) (h0 : scope.names.lookup (".0" : Str) = some NameKind.local := by rfl) (hco : scope.isCoroutine = false := by rfl) (hs : ∀ x, genFold iter X.env x = pure x := by intro _; rfl)
    (he : starEach [.GeneratorExp elt [⟨tgE, iter, ifs, 0⟩] scope gpos] X.env = (false, eval (.GeneratorExp elt [⟨tgE, iter, ifs, 0⟩] scope gpos) X.env) :: starEach [] X.env := by rfl) (hpl : (backTo pos (starEach [] X.env)).any (·.1) = false := by rfl) :
    QE X (.Call (.Name "all" p) [.GeneratorExp elt [⟨tgE, iter, ifs, 0⟩] scope gpos] [] pos) (evAllG it tg tt te (own.map (fun (x : Str × Nat) => x.2))) :=
  ⟨PE.imp (pe_allG (k := k) hr hi.ok ok hN hc C B (fun A' s' H' L code fp r => (pg A' s' H' L code fp r).ok) (fun A' s' H' L code fp r => (pt A' s' H' L code fp r).ok) (fun A' s' H' L code fp r => (pl A' s' H' L code fp r).ok) hg hm hcell h0 hco hs he hpl) (t_all ⟨⟨c, C⟩, hP⟩ hv)⟩
end
end Q2
set_option maxHeartbeats 2000000
namespace Q2
open PySem L2 PyProof.Rows
/-! ### the module's part without the code tables, which may grow -/
theorem lookup_filter {b : Addr} (f : Addr → Bool) : ∀ K : List (Addr × Obj), (K.filter fun p => f p.1).lookup b = if f b = true then K.lookup b else none
  | [] => by simp
  | (a, o) :: K => by
    by_cases hb : b = a
    · subst hb
      cases hf : f b with
      | true => rw [List.filter_cons_of_pos (by simpa using hf)]; simp
      | false => rw [List.filter_cons_of_neg (by simp [hf]), lookup_filter f K, hf]; simp
    · have hne : (b == a) = false := by simpa using hb
      have e : List.lookup b ((a, o) :: K) = List.lookup b K := by simp [List.lookup, hne]
      rw [e]
      cases hf : f a with
      | true =>
        rw [List.filter_cons_of_pos (by simpa using hf)]
        have e2 : List.lookup b ((a, o) :: K.filter fun p => f p.1) = List.lookup b (K.filter fun p => f p.1) := by simp [List.lookup, hne]
        rw [e2]; exact lookup_filter f K
      | false => rw [List.filter_cons_of_neg (by simp [hf])]; exact lookup_filter f K
def IsT (K : PySem.W.Frag) (b : Addr) (ps : Array Value) : Prop := K.lookup b = some { cls := .none, data := .fields ps } ∧ TriplesOk ps.toList ∧ ∃ c o vs, K.lookup c = some o ∧ o.cls = .type "code" ∧ o.data = .fields vs ∧ vs[11]? = some (.ref b)
def BadC (K : PySem.W.Frag) (c : Addr) : Prop := ∃ o vs P, K.lookup c = some o ∧ o.cls = .type "code" ∧ o.data = .fields vs ∧ vs[11]? = some (.ref P) ∧ ¬ ∃ ps, IsT K P ps
open Classical in
noncomputable def dropT (K : PySem.W.Frag) : PySem.W.Frag := K.filter fun p => decide ((¬ ∃ ps, IsT K p.1 ps) ∧ ¬ BadC K p.1)
open Classical in
theorem drop_look {K : PySem.W.Frag} {b : Addr} {o : Obj} (h : (dropT K).lookup b = some o) : K.lookup b = some o ∧ (¬ ∃ ps, IsT K b ps) ∧ ¬ BadC K b := by
  unfold dropT at h
  rw [lookup_filter (fun b => decide ((¬ ∃ ps, IsT K b ps) ∧ ¬ BadC K b))] at h
  split at h
  · rename_i z; exact ⟨h, of_decide_eq_true z⟩
  · cases h
open Classical in
theorem look_drop {K : PySem.W.Frag} {b : Addr} {o : Obj} (h : K.lookup b = some o) (h1 : ¬ ∃ ps, IsT K b ps) (h2 : ¬ BadC K b) : (dropT K).lookup b = some o := by
  unfold dropT
  rw [lookup_filter (fun b => decide ((¬ ∃ ps, IsT K b ps) ∧ ¬ BadC K b)), if_pos (decide_eq_true ⟨h1, h2⟩)]; exact h
theorem look_other {K : PySem.W.Frag} {b : Addr} {o : Obj} (h : K.lookup b = some o) (hd : ∀ vs, o.data ≠ .fields vs) : (dropT K).lookup b = some o :=
  look_drop h (fun ⟨ps, e, _⟩ => by rw [h] at e; cases e; exact hd _ rfl) fun ⟨o', vs, P, e, _, d, _⟩ => by rw [h] at e; cases e; exact hd _ d
/-- a code object that has its table -/
structure CodeR (K : PySem.W.Frag) (c : Addr) (q : Str) (P : Addr) : Prop where
  has : ∃ dc vs sl ps n t file tf flags tg inF text tt, K.lookup c = some ⟨.type "code", dc, .fields vs, sl⟩ ∧ vs.toList = n :: .str q t :: vs.toList.drop 2 ∧ vs[11]? = some (.ref P) ∧ vs[18]? = some (.str file tf) ∧ vs[7]? = some (.int flags tg) ∧ vs[9]? = some (.bool inF) ∧ vs[10]? = some (.int text tt) ∧
    K.lookup P = some { cls := .none, data := .fields ps } ∧ TriplesOk ps.toList
theorem CodeR.isT {K : PySem.W.Frag} {c P : Addr} {q : Str} (h : CodeR K c q P) : ∃ ps, IsT K P ps := by
  obtain ⟨dc, vs, sl, ps, n, t, file, tf, flags, tg, inF, text, tt, h1, _, h3, _, _, _, _, h8, h9⟩ := h.has
  exact ⟨ps, h8, h9, c, _, vs, h1, rfl, rfl, h3⟩
theorem CodeR.look {K : PySem.W.Frag} {c P : Addr} {q : Str} (h : CodeR K c q P) : ∃ o, K.lookup c = some o ∧ (dropT K).lookup c = some o := by
  obtain ⟨dc, vs, sl, ps, n, t, file, tf, flags, tg, inF, text, tt, h1, _, h3, _, _, _, _, h8, h9⟩ := h.has
  refine ⟨_, h1, look_drop h1 (fun ⟨qs, e, _⟩ => by rw [h1] at e; cases e) fun ⟨o', us, P', e, _, d, e2, nt⟩ => ?_⟩
  rw [h1] at e; cases e; cases d
  rw [h3] at e2; cases e2
  exact nt h.isT
theorem CodeR.codeT {K : PySem.W.Frag} {c P : Addr} {q : Str} (h : CodeR K c q P) : CodeT (dropT K) c P := by
  obtain ⟨o, e1, e2⟩ := h.look
  obtain ⟨dc, vs, sl, ps, n, t, file, tf, flags, tg, inF, text, tt, h1, _, h3, h4, h5, h6, h7, h8, h9⟩ := h.has
  rw [h1] at e1; cases e1
  exact ⟨_, vs, file, tf, flags, tg, inF, text, tt, e2, rfl, rfl, h3, h4, h5, h6, h7⟩
theorem CodeR.out {K : PySem.W.Frag} {c P : Addr} {q : Str} (h : CodeR K c q P) : (dropT K).lookup P = none := by
  cases e : (dropT K).lookup P with
  | none => rfl
  | some o => exact absurd h.isT (drop_look e).2.1
theorem CodeR.codeIn {K : PySem.W.Frag} {c P : Addr} {q : Str} (h : CodeR K c q P) : PySem.W.codeIn (dropT K) (.ref c) q = true := by
  obtain ⟨o, e1, e2⟩ := h.look
  obtain ⟨dc, vs, sl, ps, n, t, file, tf, flags, tg, inF, text, tt, h1, h2, _⟩ := h.has
  rw [h1] at e1; cases e1
  unfold PySem.W.codeIn
  dsimp only
  rw [e2]
  dsimp only
  rw [h2]
  simp
theorem tab_is {K : PySem.W.Frag} {P : Addr} (h : Tab (dropT K) P) : ∃ ps, IsT K P ps := by
  obtain ⟨c, ⟨o, vs, file, tf, flags, tg, inF, text, tt, e, hc, hd, h11, _⟩⟩ := h.code
  obtain ⟨e1, _, nb⟩ := drop_look e
  refine Classical.byContradiction fun nt => nb ⟨o, vs, P, e1, hc, hd, h11, nt⟩
/-! ### the law's start, with the tables tracked -/
open Classical in
theorem law_callT {P : Program} {w : World} {K : PySem.W.Frag} {mg mb : Str → Option Value} {CX : CXT} {k : Nat} {fa a : Addr} {fd : FuncData} {x : Str} {sp : Sp} {s₁ : Shared} {vs : List Value} {ns : List Int}
    (KX : K.In s₁.heap) (hns : s₁.heap.Ns mainGlobals mg) (hb : s₁.heap.Ns builtinsNs mb) (hbb : ∀ x : Str, x ≠ "__name__" → mb x = bootBuiltins x) (hlim : s₁.heap.NoLimit) (hg : s₁.gens = #[])
    (ha : s₁.heap.get? a = some { cls := .type "list", data := .seq vs.toArray }) (hi : IntsAre vs ns) (hl : ns.length ≤ sizeLine) (hr : Room k callerA)
    (F : ∀ base : Heap, (dropT K).In base → base.Ns mainGlobals mg → FnOk P w (dropT K) mg base CX k fa fd [x] sp) (hbind : ∀ (s : Shared) (u : Value), BindsTo s fd ⟨[u], []⟩ [(x, u)])
    (hsp : ∀ H : Hp, (∀ xs, H a ≠ some (.lst xs)) → (∀ P, Tab (dropT K) P → ∃ ps, H P = some (.tbl ps)) → SqL (dropT K) H a (ns.map V.int) → sp [.ref a] H (fun v _ => v = .bl true) fun _ _ _ => False)
    (hCX : ∀ H e s', CX [] H s₁ (fun _ _ _ => False) e s' → False) :
    codeAny (model P w) callerA (.call (.ref fa) ⟨[.ref a], []⟩) (fun r s' => r = .ok (.ret (.bool true)) ∧ OldK s₁.heap s'.heap ∧ s'.os = s₁.os ∧ AllBare s'.gens) s₁ := by
  have rv := vals_ints hi
  have lenV := hi.length
  let H : Hp := fun b => if b = a ∧ K.lookup a = none then some (.frz { cls := .type "list", data := .seq vs.toArray } (.lst (ns.map V.int))) else if h : ∃ ps, IsT K b ps then some (.tbl h.choose) else none
  have hKa : ∀ ps, ¬ IsT K a ps := fun ps t => by
    have := KX a _ t.1
    rw [ha] at this; cases this
  have Hcase : ∀ b u, H b = some u → (b = a ∧ K.lookup a = none ∧ u = .frz { cls := .type "list", data := .seq vs.toArray } (.lst (ns.map V.int))) ∨ ∃ ps, IsT K b ps ∧ u = .tbl ps := fun b u e => by
    by_cases h1 : b = a ∧ K.lookup a = none
    · have e' := (if_pos h1).symm.trans e
      cases e'
      exact .inl ⟨h1.1, h1.2, rfl⟩
    · have e' := (if_neg h1).symm.trans e
      by_cases h2 : ∃ ps, IsT K b ps
      · have e2 := (dif_pos h2).symm.trans e'
        cases e2
        exact .inr ⟨_, h2.choose_spec, rfl⟩
      · have e2 := (dif_neg h2).symm.trans e'
        cases e2
  have Htab : ∀ b ps, IsT K b ps → ∃ qs, H b = some (.tbl qs) := fun b ps t => by
    have hne : ¬ (b = a ∧ K.lookup a = none) := fun z => hKa ps (z.1 ▸ t)
    have h2 : ∃ ps, IsT K b ps := ⟨ps, t⟩
    exact ⟨h2.choose, (if_neg hne).trans (dif_pos h2)⟩
  have hok : HOk P w H s₁.heap := fun b u e => by
    rcases Hcase b u e with ⟨rfl, _, rfl⟩ | ⟨ps, t, rfl⟩
    · exact ⟨ha, by rw [List.length_map]; exact hl, vs, _, rv, ha⟩
    · exact ⟨KX b _ t.1, t.2.1⟩
  have noA : ∀ {b : Addr} {o : Obj} {es : Array DictEntry} {ep : Nat}, s₁.heap.get? b = some o → o.data = .dict es ep → H b = none := fun {b o es ep} e d => by
    cases q : H b with
    | none => rfl
    | some u =>
      rcases Hcase b u q with ⟨rfl, _, _⟩ | ⟨ps, t, _⟩
      · rw [ha] at e; cases e
        have d' : Data.seq vs.toArray _ = Data.dict es ep := d
        cases d'
      · have e2 := KX b _ t.1
        rw [e] at e2; cases e2; cases d
  have nsK : ∀ {b : Addr} {m : Str → Option Value}, s₁.heap.Ns b m → (hidT s₁.heap H).Ns b m := fun {b m} ⟨o, es, ep, e, d, r⟩ => ⟨o, es, ep, hidT_get e (noA e d), d, r⟩
  have hKb : (dropT K).In (hidT s₁.heap H) := fun b o e => by
    obtain ⟨e1, nt, _⟩ := drop_look e
    refine hidT_get (KX b o e1) ?_
    cases q : H b with
    | none => rfl
    | some u =>
      rcases Hcase b u q with ⟨rfl, z, _⟩ | ⟨ps, t, _⟩
      · rw [z] at e1; cases e1
      · exact absurd ⟨ps, t⟩ nt
  have hM : Mod (dropT K) mg (hidT s₁.heap H) := ⟨hKb, nsK hns, ⟨mb, nsK hb, hbb⟩, let ⟨mc, h1, h2⟩ := hlim; ⟨mc, nsK h1, h2⟩⟩
  have e0 : Env0 P w (dropT K) mg (hidT s₁.heap H) callerA [] s₁ H := ⟨rfl, hM, fun b o e => of_hidT e, Nat.le_of_eq (hidT_size _ _), trivial, fun b hb => absurd (show b ∈ ([] : List Addr) from hb) (by simp), hok, .of_eq hg⟩
  have hS : SqL (dropT K) H a (ns.map V.int) := by
    cases hk : K.lookup a with
    | some o =>
      have e := KX a o hk
      rw [ha] at e
      cases e
      have hk' := look_other hk fun vs z => by cases z
      exact .inr ⟨_, vs.toArray, _, hk', rfl, rfl, rfl, by rw [List.size_toArray, lenV]; exact hl, by simpa using rv⟩
    | none => exact .inl (.inr ⟨{ cls := .type "list", data := .seq vs.toArray }, if_pos ⟨rfl, hk⟩⟩)
  have hO : ∀ xs, H a ≠ some (.lst xs) := fun xs e => by
    rcases Hcase a _ e with ⟨_, _, z⟩ | ⟨ps, t, z⟩ <;> cases z
  refine codeAny_mono ((F _ hKb (nsK hns)).run callerA [] s₁ H ⟨[.ref a], []⟩ [.ref a] [.ref a] _ _ hr e0 (hbind s₁ (.ref a)) (.cons rfl .nil) (hsp H hO (fun P t => let ⟨ps, t⟩ := tab_is t; Htab P ps t) hS)) fun r s' h => ?_
  cases r with
  | error e => exact (hCX H e s' h).elim
  | ok fl =>
    cases fl with
    | next => exact False.elim h
    | brk => exact False.elim h
    | cont => exact False.elim h
    | ret u =>
      obtain ⟨v, H', os, bare, un, hok', r', q⟩ := h
      have q' : v = .bl true := q
      subst q'
      obtain rfl : u = Value.bool true := r'
      have key : ∀ b o, s₁.heap.get? b = some o → s'.heap.get? b = some o ∨ ∃ ps more, IsT K b ps ∧ o = { cls := .none, data := .fields ps } ∧ s'.heap.get? b = some { cls := .none, data := .fields (ps ++ more) } := fun b o e => by
        cases q : H b with
        | none => exact .inl (un.keep b o e q (by intro z; exact absurd (show b ∈ ([] : List Addr) from z) (by simp)) (by simp))
        | some u =>
          rcases Hcase b u q with ⟨rfl, _, rfl⟩ | ⟨ps, t, rfl⟩
          · have z2 := un.frzs b _ _ q
            obtain ⟨e2, _⟩ := hok' b _ z2
            rw [ha] at e; cases e
            exact .inl e2
          · obtain ⟨more, z2⟩ := un.tbls b ps q
            obtain ⟨e2, _⟩ := hok' b _ z2
            have e1 := KX b _ t.1
            rw [e] at e1; cases e1
            exact .inr ⟨ps, more, t, rfl, e2⟩
      refine ⟨rfl, ⟨fun b o e => ?_, fun b o e => ?_⟩, os, bare.bare⟩
      · rcases key b o e with z | ⟨ps, more, t, rfl, z⟩
        · exact .inl z
        · obtain ⟨_, _, c, oc, vc, h1, h2, h3, h4⟩ := t
          exact .inr (.inl ⟨⟨c, oc, vc, KX c oc h1, h2, h3, h4⟩, rfl, ps, more, rfl, z⟩)
      · rcases key b o e with z | ⟨ps, more, t, rfl, z⟩
        · exact ⟨_, z⟩
        · exact ⟨_, z⟩
theorem walkT {l : PySem.W.OpenLaw} {q : Program} {loose : List Str} {XP : (Str → Option Value) → Heap → Prop} {YP : World → Heap → Prop} {d : DefRec} {K : Params → PySem.W.Frag} {x : Str} {k : Nat} (hn : l.most = some 63) (hdf : d.params.defaults = []) (hr : Room k callerA)
    (hY : ∀ (w : World) (h : Heap), YP w h → (K w.params).In h)
    (F : ∀ (w : World) (mg : Str → Option Value) (fa : Addr) (h : Heap), (K w.params).In h → h.Ns mainGlobals mg → mg d.name = some (.ref fa) →
      ∃ fd : FuncData, (∀ (s : Shared) (u : Value), BindsTo s fd ⟨[u], []⟩ [(x, u)]) ∧ ∀ base : Heap, (dropT (K w.params)).In base → base.Ns mainGlobals mg → FnOk l.prog w (dropT (K w.params)) mg base CX0 k fa fd [x] (spF (dropT (K w.params)) fLaw)) :
    PySem.W.WalkO q loose XP YP l.row.toRowW d [] (fun f vs => PySem.call f vs) := by
  refine Att.attach_call hn hdf fun w s₀ s₁ mg mb fa o pm cd doc a vs ns G Y ho hd hcd hmg hobj hints hlen hg => ?_
  have KX := hY w _ Y
  obtain ⟨fd, hb, hF⟩ := F w mg fa _ KX G.T.g hmg
  exact law_callT KX G.T.g G.T.b G.T.builtins G.T.nolimit hg hobj hints (Nat.le_trans hlen (by decide)) hr hF hb (fun H hO hT hS => law_sp hlen hO hT hS) fun H e s' z => z
end Q2
set_option maxHeartbeats 2000000
namespace Q2
open PySem L2 PyProof.Rows
def triplesB : List Value → Bool
  | [] => true
  | .int _ _ :: .int _ _ :: _ :: r => triplesB r
  | _ => false
theorem triples_of : ∀ {l : List Value}, triplesB l = true → TriplesOk l
  | [], _ => trivial
  | .int _ _ :: .int _ _ :: _ :: r, h => triples_of (l := r) h
/-- what a code object of the name q tells: its table -/
def codeVals (vs : Array Value) (q : Str) : Option Addr := match vs.toList with
  | _ :: .str n _ :: _ => if n == q then (match (vs[11]? : Option Value), (vs[18]? : Option Value), (vs[7]? : Option Value), (vs[9]? : Option Value), (vs[10]? : Option Value) with
    | some (Value.ref P), some (Value.str _ _), some (Value.int _ _), some (Value.bool _), some (Value.int _ _) => some P
    | _, _, _, _, _ => none) else none
  | _ => none
theorem CodeR.of {K : PySem.W.Frag} {c P : Addr} {q : Str} {dc : Option Addr} {vs ps : Array Value} {sl : Array (Option Value)} (h1 : K.lookup c = some ⟨.type "code", dc, .fields vs, sl⟩) (h2 : codeVals vs q = some P) (h3 : K.lookup P = some ⟨.none, none, .fields ps, #[]⟩) (h4 : triplesB ps.toList = true) : CodeR K c q P := by
  unfold codeVals at h2
  split at h2
  · rename_i n m t r hv
    split at h2
    · rename_i hq
      split at h2
      · rename_i e1 e2 e3 e4 e5
        cases h2
        refine ⟨dc, vs, sl, ps, n, t, _, _, _, _, _, _, _, h1, ?_, e1, e2, e3, e4, e5, h3, triples_of h4⟩
        rw [hv, ← beq_iff_eq.mp hq]; rfl
      · cases h2
    · cases h2
  · cases h2
theorem BMk.of {K : PySem.W.Frag} {h : Heap} {mg : Str → Option Value} {bm : Addr} {sl : Array (Option Value)} (X : K.In h) (G : h.Ns mainGlobals mg) (h1 : PySem.W.nsIn K mainGlobals "__builtins__" = some (some (.ref bm))) (h2 : K.lookup bm = some ⟨.type "module", some builtinsNs, .plain, sl⟩) (h3 : (bm == builtinsNs) = false) : BMk (dropT K) mg :=
  ⟨bm, _, PySem.W.mg_of X G h1, by simpa using h3, look_other h2 (fun vs z => by cases z), rfl, rfl, rfl⟩
section
variable {P : Program} {w : World} {K : PySem.W.Frag} {mg : Str → Option Value} {base : Heap}
theorem fn_okC {x : Str} {st : Stmt} {f c P0 : Addr} {oc kV dc pm ct : Value} {od an : Option Addr} {osl : Array (Option Value)} {N ps : List Str} {k : Nat} {F : Fn} {mb : Sv}
    (lk : K.lookup f = some ⟨oc, od, .func (PySem.W.fnOf x x (defArgs st) (defBody st) (defScope st) .none kV dc pm an (.ref c) ct), osl⟩) (R : CodeR K c x P0) (S : FnScope N ps (defScope st)) (ar : ∀ ds S r, F ds S = some r → ds.length = ps.length)
    (hb : ∀ (A : Around) (outer : List Env) (s : Shared) (H : Hp) (E : XK), Room k (A.deeper (PyProof.Rows.envOfC x (defScope st) s.heap.objs.size f (.ref c))) → QSs (cxOf CX0 P w (dropT K) mg base N x (defScope st) f (.ref c) A outer s H E).nox (defBody st) mb)
    (sem : ∀ ds S d S', F ds S = some (d, S') → Sem mb N ds S d S') : FnOk P w (dropT K) mg base CX0 (k + 1) f (PySem.W.fnOf x x (defArgs st) (defBody st) (defScope st) .none kV dc pm an (.ref c) ct) ps (spF (dropT K) F) := by
  refine fn_of (look_other lk fun vs z => by cases z) R.codeIn S (fun vs H Q E h => ?_) fun A outer s H vs Q E hr h => ?_
  · obtain ⟨ds, S1, ρ, d, S', r, ok, e, q⟩ := h
    rw [← r.length]
    exact ar _ _ _ e
  · obtain ⟨ds, S1, ρ, d, S', r, ok, e, q⟩ := h
    obtain ⟨fl, d0, S0, e1, e2, g⟩ := sem _ _ _ _ e
    refine ⟨_, (hb A outer s H E hr).ok.nox, startD N ds, S1, ρ, fl, sok_start r, ok, e1, ?_⟩
    rcases e2 with e2 | ⟨σ, e2, e3⟩
    · subst e2
      intro v H' ρ' x1 ok1 r1
      obtain ⟨ρ2, x2, ok2, r2⟩ := g _ _ _ _ _ _ ok x1 ok1 r1
      exact q v H' ρ2 x2 ok2 r2
    · subst e2 e3
      intro σ' H' ρ' x1 ok1 s1
      obtain ⟨ρ2, x2, ok2, r2⟩ := g _ _ _ _ _ .non ok x1 ok1 .non
      exact q .non H' ρ2 x2 ok2 r2
theorem def_okC {x : Str} {st : Stmt} {f c P0 : Addr} {oc kV dc pm ct : Value} {od an : Option Addr} {osl : Array (Option Value)} {N ps : List Str} {k : Nat} {F : Fn} {mb : Sv}
    (lk : K.lookup f = some ⟨oc, od, .func (PySem.W.fnOf x x (defArgs st) (defBody st) (defScope st) .none kV dc pm an (.ref c) ct), osl⟩) (R : CodeR K c x P0) (hm : mg x = some (.ref f)) (S : FnScope N ps (defScope st))
    (hB : ∀ us : List Value, us.length = ps.length → bindArgs (PySem.W.fnOf x x (defArgs st) (defBody st) (defScope st) .none kV dc pm an (.ref c) ct) ⟨us, []⟩ = pure (ps.zip us)) (ar : ∀ ds S r, F ds S = some r → ds.length = ps.length)
    (hb : ∀ (A : Around) (outer : List Env) (s : Shared) (H : Hp) (E : XK), Room k (A.deeper (PyProof.Rows.envOfC x (defScope st) s.heap.objs.size f (.ref c))) → QSs (cxOf CX0 P w (dropT K) mg base N x (defScope st) f (.ref c) A outer s H E).nox (defBody st) mb)
    (sem : ∀ ds S d S', F ds S = some (d, S') → Sem mb N ds S d S') : DefOk P w (dropT K) mg base (k + 1) x F :=
  ⟨f, _, ps, fn_okC lk R S ar hb sem, hm, by
    unfold PySem.W.keepIn
    dsimp only
    rw [look_other lk fun vs z => by cases z], .all hB⟩
end
/-! ### and, or of tuples -/
def evAndT (ma mb : Ev) : Ev := fun σ S => (ma σ S).bind fun p => (truth p.1 p.2).bind fun b => if b = true then mb σ p.2 else some p
end Q2
namespace Q2
open PySem L2
section
variable {X : Cx} {a b : Expr} {rest : List Expr} {pos : Pos} {ma mb : Ev}
end
end Q2
namespace Q2
open PySem L2
/-! ### isinstance(x, T), T a built-in class -/
/-- the kind of what is handed in -/
inductive Kd where | non | bl | int | str | lst | tup
def Kd.name : Kd → String
  | .non => "NoneType" | .bl => "bool" | .int => "int" | .str => "str" | .lst => "list" | .tup => "tuple"
/-- the classes that are asked for -/
inductive Cl where | int | bl | tup | lst | str
def Cl.name : Cl → String
  | .int => "int" | .bl => "bool" | .tup => "tuple" | .lst => "list" | .str => "str"
def isK : Kd → Cl → Bool
  | .int, .int => true | .bl, .int => true | .bl, .bl => true | .tup, .tup => true | .lst, .lst => true | .str, .str => true | _, _ => false
inductive KdV (K : PySem.W.Frag) (H : Hp) : V → Kd → Prop where
  | non : KdV K H .non .non
  | bl (b : Bool) : KdV K H (.bl b) .bl
  | int (i : Int) : KdV K H (.int i) .int
  | str (x : Str) : KdV K H (.str x) .str
  | lst {a : Addr} {xs : List V} (h : SqL K H a xs) : KdV K H (.ref a) .lst
  | tup {a : Addr} {xs : List V} (h : L2.SqT K H a xs) : KdV K H (.ref a) .tup
def kindD (d : D) (S : Store) : Option Kd := match d with
  | .non => some .non
  | .bl _ => some .bl
  | .int _ => some .int
  | .str _ => some .str
  | .tup _ => some .tup
  | .loc n => match S[n]? with
    | some (Cell.lst _) => some .lst
    | some (Cell.ro _) => some .lst
    | _ => none
theorem kind_loc {n : Nat} {S : Store} {k : Kd} (h : kindD (.loc n) S = some k) : k = .lst ∧ ∃ ds, S[n]? = some (Cell.lst ds) ∨ S[n]? = some (Cell.ro ds) := by
  have e0 : (match S[n]? with
    | some (Cell.lst _) => some Kd.lst
    | some (Cell.ro _) => some Kd.lst
    | _ => none) = some k := h
  cases hs : S[n]? with
  | none => rw [hs] at e0; cases e0
  | some c =>
    rw [hs] at e0
    cases c with
    | lst ds => cases e0; exact ⟨rfl, ds, .inl rfl⟩
    | ro ds => cases e0; exact ⟨rfl, ds, .inr rfl⟩
    | dk _ => cases e0
    | dt _ => cases e0
theorem loc_kind {n : Nat} {S : Store} {ds : List D} (h : S[n]? = some (Cell.lst ds) ∨ S[n]? = some (Cell.ro ds)) : kindD (.loc n) S = some .lst := by
  show (match S[n]? with
    | some (Cell.lst _) => some Kd.lst
    | some (Cell.ro _) => some Kd.lst
    | _ => none) = some .lst
  rcases h with h | h <;> (rw [h])
def oIsi (c : Cl) : Op1 := fun d S => (kindD d S).map fun k => (.bl (isK k c), S)
section
variable {X : Cx} {e : Expr} {m : Ev} {pos p p2 : Pos}
end
end Q2
namespace HT
open PySem PyProof.Rows
section
variable {prog : Program} {w : World} {A : Around} {E : Value → Shared → Prop} {s : Shared}
end
end HT
namespace Q2
open PySem L2
section
variable {X : Cx} {a b : Expr} {ma mb : Ev} {pos : Pos}
/-- + of ints, texts, lists, tuples, the empty one too -/
def oAdd2 : Op2 := fun x y S => match x, y with
  | .tup [], .tup es => some (.tup es, S)
  | x, y => oAdd x y S
/-! ### in -/
def flatD : D → Bool
  | .non => true | .bl _ => true | .int _ => true | .str _ => true | _ => false
def vD : D → V
  | .non => .non | .bl b => .bl b | .int i => .int i | .str x => .str x | _ => .non
theorem vD_of {K H ρ d v} (r : Rel K H ρ d v) (f : flatD d = true) : v = vD d ∧ flatV v = true := by
  cases r <;> first | exact ⟨rfl, rfl⟩ | (exact absurd (show false = true from f) Bool.false_ne_true)
theorem vD_all {K H ρ} : ∀ {ds : List D} {vs : List V}, RelL K H ρ ds vs → ds.all flatD = true → vs = ds.map vD ∧ vs.all flatV = true
  | _, _, .nil, _ => ⟨rfl, rfl⟩
  | d :: ds, v :: vs, .cons r t, f => by
    rw [List.all_cons, Bool.and_eq_true] at f
    obtain ⟨e1, e2⟩ := vD_of r f.1
    obtain ⟨e3, e4⟩ := vD_all t f.2
    exact ⟨by rw [List.map_cons, e1, e3], by rw [List.all_cons, e2, e4]; rfl⟩
def inD (x : D) (ds : List D) : Bool := inV (vD x) (ds.map vD)
def oIn (neg : Bool) : Op2 := fun x y S => (itemsD y S).bind fun ds => if flatD x = true ∧ ds.all flatD = true then some (.bl (if neg then !inD x ds else inD x ds), S) else none
theorem s_in {K : PySem.W.Frag} {neg : Bool} : OpS K (rIn K neg) (oIn neg) := by
  intro x y v u H ρ S d S' Q rx ry ok e k
  obtain ⟨ds, e1, e⟩ := Option.bind_eq_some_iff.mp e
  obtain ⟨p, vs, rfl, rl, h⟩ := items_ok ok ry e1
  by_cases hc : flatD x = true ∧ ds.all flatD = true
  · have e := (if_pos hc).symm.trans e
    cases e
    obtain ⟨e2, e3⟩ := vD_of rx hc.1
    obtain ⟨e4, e5⟩ := vD_all rl hc.2
    refine ⟨p, vs, rfl, h.imp id SqT.any, e3, e5, ?_⟩
    have := k (.bl (if neg then !inD x ds else inD x ds)) H ρ .refl ok (.bl _)
    rw [e2, e4]
    exact this
  · have e := (if_neg hc).symm.trans e
    cases e
theorem q_tin (ha : QE X a ma) (hb : QE X b mb) (hm : behindInMarks .In b = false := by rfl) : QT X (.Compare a [.In] [b] pos) (evB (ev2 (oIn false) ma mb)) := q_tcmp op_in_seq s_in ha hb hm
end
end Q2
namespace Q2
open PySem L2 PyProof.Rows
/-! ### (a, *b) -/
section
variable {X : Cx} {e : Expr} {es : List Expr} {te : TE} {t : TA} {p : Pos} {m : Ev} {mr : EvA}
def eaStar (m : Ev) (r : EvA) : EvA := fun σ S => (m σ S).bind fun p => (itemsD p.1 p.2).bind fun ds => (r σ p.2).map fun q => (ds ++ q.1, q.2)
end
/-- a def of which nothing is asked -/
def fNone : Fn := fun _ _ => none
end Q2
namespace HT
open PySem PySem.Spec PyProof.Rows
open AutoSeq1 (wpAny_loadPart')
end HT
namespace Q2
open PySem L2 PyProof.Rows
section
variable {X : Cx} {a b : Expr} {ma mb : Ev} {pos : Pos}
/-! ### t * n of a tuple with parts, n from 1 on -/
def oMul2 : Op2 := fun x y S => match x, y with
  | .tup (d :: ds), .int k => if 1 ≤ k ∧ k < 2 ^ 62 ∧ (ds.length + 1) * k.toNat ≤ 100000 then some (.tup (List.replicate k.toNat (d :: ds)).flatten, S) else none
  | x, y => oMul x y S
end
end Q2
set_option maxHeartbeats 1000000
namespace Ss
open PySem PySem.W PyProof.Rows
/-! ### pairs of whole numbers -/
def ltP (p q : Int × Int) : Bool := if p.1 = q.1 then decide (p.2 < q.2) else decide (p.1 < q.1)
theorem ltP_asym {p q : Int × Int} (h : ltP p q = true) : ltP q p = false := by
  unfold ltP at *
  by_cases e : p.1 = q.1
  · rw [if_pos e] at h
    rw [if_pos e.symm]
    have := of_decide_eq_true h
    exact decide_eq_false (by omega)
  · rw [if_neg e] at h
    rw [if_neg (fun z => e z.symm)]
    have := of_decide_eq_true h
    exact decide_eq_false (by omega)
theorem ltP_trans {p q r : Int × Int} (h1 : ltP p q = true) (h2 : ltP q r = true) : ltP p r = true := by
  unfold ltP at *
  by_cases e : p.1 = q.1
  · rw [if_pos e] at h1
    have h1 := of_decide_eq_true h1
    by_cases e2 : q.1 = r.1
    · rw [if_pos e2] at h2
      have h2 := of_decide_eq_true h2
      rw [if_pos (e.trans e2)]; exact decide_eq_true (by omega)
    · rw [if_neg e2] at h2
      have h2 := of_decide_eq_true h2
      rw [if_neg (by omega)]; exact decide_eq_true (by omega)
  · rw [if_neg e] at h1
    have h1 := of_decide_eq_true h1
    by_cases e2 : q.1 = r.1
    · rw [if_pos e2] at h2
      rw [if_neg (by omega)]; exact decide_eq_true (by omega)
    · rw [if_neg e2] at h2
      have h2 := of_decide_eq_true h2
      rw [if_neg (by omega)]; exact decide_eq_true (by omega)
theorem ltP_tot {p q : Int × Int} (hne : p ≠ q) (h : ltP p q = false) : ltP q p = true := by
  unfold ltP at *
  by_cases e : p.1 = q.1
  · rw [if_pos e] at h
    rw [if_pos e.symm]
    have := of_decide_eq_false h
    refine decide_eq_true ?_
    have : p.2 ≠ q.2 := fun z => hne (Prod.ext e z)
    omega
  · rw [if_neg e] at h
    rw [if_neg (fun z => e z.symm)]
    have := of_decide_eq_false h
    exact decide_eq_true (by omega)
/-- a tuple of two whole numbers -/
def IsPair (h : Heap) (v : Value) (p : Int × Int) : Prop := ∃ a t u, v = .ref a ∧ IsTup h a #[.int p.1 t, .int p.2 u]
theorem IsPair.keeps {h h' : Heap} {v : Value} {p : Int × Int} (k : ∀ a o xs n, o.cls = .type "tuple" → o.data = .seq xs n → h.get? a = some o → h'.get? a = some o) (x : IsPair h v p) : IsPair h' v p := by
  obtain ⟨a, t, u, e, o, h1, h2, n, h3⟩ := x
  exact ⟨a, t, u, e, o, k a o _ n h2 h3 h1, h2, n, h3⟩
section
variable {prog : Program} {w : World} {A : Around} {E : Value → Shared → Prop} {s : Shared}
theorem ask_pair {v v' : Value} {p q : Int × Int} {Q : Bool → Shared → Prop} (hp : IsPair s.heap v p) (hq : IsPair s.heap v' q) (h : Q (ltP p q) s) : wpAny (model prog w) A (keyLt' (tuples' true) v v') Q E s := by
  obtain ⟨a, t, u, rfl, o, ho, hc, n, hd⟩ := hp
  obtain ⟨a', t', u', rfl, o', ho', hc', n', hd'⟩ := hq
  refine kat_lt ho hd ho' hd' (kat_cons (wpAny_eqBool_int (kat_go (fun e => ?_) (fun e => ?_))))
  · have e1 : p.1 = q.1 := by simpa using e
    unfold ltP at h
    rw [if_pos e1] at h
    refine kat_yes (kat_cons (wpAny_eqBool_int (kat_go (fun e => ?_) (fun e => ?_))))
    · have e2 : p.2 = q.2 := by simpa using e
      rw [decide_eq_false (by omega)] at h
      exact kat_yes (kat_nil h)
    · exact kat_no (kat_one _ _ (lt_int h))
  · have e1 : p.1 ≠ q.1 := by simpa using e
    unfold ltP at h
    rw [if_neg e1] at h
    exact kat_no (oneLt_int h)
end
end Ss
set_option maxHeartbeats 1000000
namespace L2
open PySem PySem.Spec PyProof.Rows
variable {X : Cx} {pins : List (Addr × Obj)} {σ : List (Option V)} {H : Hp} {s : Shared} {h' : Heap}
theorem ObjOk.there {P : Program} {w : World} {h : Heap} {a : Addr} {o : HO} (x : ObjOk P w H h a o) : ∃ u, h.get? a = some u := by
  cases o with
  | lst xs => obtain ⟨_, _, _, _, e⟩ := x; exact ⟨_, e⟩
  | tup xs => obtain ⟨_, _, _, ob, e, _⟩ := x; exact ⟨_, e⟩
  | dK kvs => obtain ⟨_, _, _, _, o, _, _, e, _⟩ := x; exact ⟨_, e⟩
  | dT kvs => obtain ⟨_, _, _, _, o, _, _, e, _⟩ := x; exact ⟨_, e⟩
  | set S n => obtain ⟨o, _, _, _, e, _⟩ := x; exact ⟨_, e⟩
  | ins C dx fs => obtain ⟨_, _, _, e, _⟩ := x; exact ⟨_, e⟩
  | own y => obtain ⟨_, e⟩ := x; exact ⟨_, e⟩
  | xd fs => obtain ⟨_, ⟨_, _, _, e, _⟩, _⟩ := x; exact ⟨_, e⟩
  | rng lo hi => obtain ⟨_, _, _, e⟩ := x; exact ⟨_, e⟩
  | frz ob u => obtain ⟨e, _⟩ := x; exact ⟨_, e⟩
  | tbl ps => exact ⟨_, x.1⟩
  | met f y => exact ⟨_, x⟩
  | ext φ => obtain ⟨_, ⟨_, e⟩, _⟩ := x; exact ⟨_, e⟩
theorem Inv.out (I : Inv X pins σ H s) {a : Addr} (h : s.heap.get? a = none) : H a = none := by
  cases q : H a with
  | none => rfl
  | some o =>
    obtain ⟨u, e⟩ := ObjOk.there (I.hok a o q)
    rw [h] at e; cases e
/-- a new object laid and tracked; all else kept but the frame's own record, whose names say the same -/
theorem Inv.laidF {a : Addr} {o : HO} {t' : Nat} (I : Inv X pins σ H s) (k : ∀ b u, b ≠ X.env.locals → s.heap.get? b = some u → h'.get? b = some u) (ns : ∀ m, s.heap.Ns X.env.locals m → h'.Ns X.env.locals m) (hp : s.heap.get? a = none) (new : ObjOk X.prog X.w (upd H a o) h' a o) :
    Inv X pins σ (upd H a o) { s with heap := h', toks := t' } := by
  have hn := I.out hp
  have nl : ∀ b u, H b = some u → b ≠ X.env.locals := fun b u e z => by rw [z, I.free] at e; cases e
  refine I.step (g' := s.gens) (d' := s.drawn) (ch := []) (fun _ z => nomatch z) (fun b u hL _ _ e _ => k b u hL e) (fun b u hL _ _ e _ => ⟨u.slots, k b u hL e⟩) (fun b u _ e n => ?_) (fun b u _ e => ?_) (fun b xs e => ?_) (fun b x y e => ?_) (fun b ps e => ⟨#[], ?_⟩) ns (fun b u e => ?_) I.bare
  · have : b ≠ a := fun z => by rw [z, hp] at e; cases e
    rw [upd_ne this]; exact n
  · by_cases hb : b = X.env.locals
    · obtain ⟨m, hm, _⟩ := I.loc
      obtain ⟨o', _, _, ho', _⟩ := ns m hm
      exact ⟨o', hb ▸ ho'⟩
    · exact ⟨u, k b u hb e⟩
  · rw [upd_ne (ne_of_none e hn)]; exact e
  · rw [upd_ne (ne_of_none e hn)]; exact e
  · rw [upd_ne (ne_of_none e hn)]; simpa using e
  · by_cases hb : b = a
    · subst hb; rw [upd_same] at e; cases e; exact new
    · rw [upd_ne hb] at e
      refine (I.hok b u e).stay (fun c v hc q => k c v ?_ q) (fun c q => by rw [upd_ne (ne_of_none q hn)]; exact q) fun c xs q => by rw [upd_ne (ne_of_none q hn)]; exact q
      rcases hc with z | z
      · rw [z]; exact nl b u e
      · exact nl c _ z
end L2
namespace Ss
open PySem PySem.W PyProof.Rows L2
section
variable {prog : Program} {w : World} {A : Around} {E : Value → Shared → Prop} {s : Shared}
theorem sort_few {a : Addr} {vs : List Value} {n : Nat} {P : PySem.Fin → Shared → Prop} (ho : s.heap.get? a = some (seqObj "list" vs.toArray n)) (h2 : vs.length < 2)
    (h : ∀ h' c, (∀ b u, b ≠ a → s.heap.get? b = some u → h'.get? b = some u) → h'.get? a = some (seqObj "list" vs.toArray c) → P (.done (.ret .none)) { s with heap := h' }) :
    wpAny (model prog w) A (Builtin.«list.sort» ⟨[.ref a], []⟩) P E s := by
  have hlt := Heap.lt_size ho
  have key : ∀ (ws : Array Value) (hw : ws = vs.toArray), ∃ e, (((s.heap.update a (Obj.mapSeq fun _ => (#[] : Array Value))).push { cls := Value.type "tuple", data := Data.seq ws }).push { cls := Value.type "list", data := Data.seq #[] }).get? a = some (seqObj "list" #[] e) ∧ (e == if ((#[] : Array Value).size == vs.toArray.size) = true then n else n + 1) = true := fun ws _ => by
    refine ⟨_, Heap.get?_push_of_some _ (Heap.get?_push_of_some _ (get?_update_seq ho fun _ => #[])), ?_⟩
    simp
  have keep : ∀ (x y : Obj) (f : Obj → Obj) b u, b ≠ a → s.heap.get? b = some u → ((((s.heap.update a (Obj.mapSeq fun _ => (#[] : Array Value))).push x).push y).update a f).get? b = some u := fun x y f b u hb e => by
    rw [Heap.get?_update_ne _ _ _ _ hb]
    refine Heap.get?_push_of_some _ (Heap.get?_push_of_some _ ?_)
    rw [Heap.get?_update_ne _ _ _ _ hb]; exact e
  match vs, h2 with
  | [], _ =>
    obtain ⟨e, he, hb⟩ := key #[] rfl
    have hb' : (e != if ((#[] : Array Value).size == (#[] : Array Value).size) = true then n else n + 1) = false := by unfold bne; rw [hb]; rfl
    rw [list_sort_plain]
    wp_walk
    rw [if_pos (by decide)]
    have ea : Array.map (fun x => x.snd) (arrOf (SortSt.mk' general' ((#[] : Array Value).zip #[]) #[] 7 none)) = #[] := by
      show Array.map (fun x => x.snd) ((#[] : Array Value).zip #[]) = #[]
      simp
    refine wpAny_pure ?_
    dsimp only
    rw [ea]
    refine wpAny_bind (seqEpoch_at he rfl (wpAny_bind (listUpdate_at he rfl ?_ (Nat.zero_le _) (by show 0 ≤ sizeLine + 1; omega))))
    show wpAny (model prog w) A (if (e != if ((#[] : Array Value).size == (#[] : Array Value).size) = true then n else n + 1) = true then _ else ret Value.none) P E _
    rw [if_neg (by rw [hb']; exact Bool.false_ne_true)]
    exact wpAny_pure (h _ _ (keep _ _ _) (get?_update_seq he fun _ => #[]))
  | [v], _ =>
    obtain ⟨e, he, hb⟩ := key #[v] rfl
    have hb' : (e != if ((#[] : Array Value).size == (#[v] : Array Value).size) = true then n else n + 1) = false := by unfold bne; rw [hb]; rfl
    rw [list_sort_plain]
    wp_walk
    rw [if_pos (by show 1 < 2; decide)]
    have ea : Array.map (fun x => x.snd) (arrOf (SortSt.mk' general' ((#[v] : Array Value).zip #[v]) #[] 7 none)) = #[v] := by
      show Array.map (fun x => x.snd) ((#[v] : Array Value).zip #[v]) = #[v]
      simp
    refine wpAny_pure ?_
    dsimp only
    rw [ea]
    refine wpAny_bind (seqEpoch_at he rfl (wpAny_bind (listUpdate_at he rfl ?_ (Nat.zero_le _) (by show 1 ≤ sizeLine + 1; omega))))
    show wpAny (model prog w) A (if (e != if ((#[] : Array Value).size == (#[v] : Array Value).size) = true then n else n + 1) = true then _ else ret Value.none) P E _
    rw [if_neg (by rw [hb']; exact Bool.false_ne_true)]
    exact wpAny_pure (h _ _ (keep _ _ _) (get?_update_seq he fun _ => #[v]))
end
section
variable {X : Cx} {pins : List (Addr × Obj)} {σ : L2.St} {H : Hp} {s : Shared} {A : Around}
/-- the pairs that values are -/
inductive Pairs (h : Heap) : List Value → List (Int × Int) → Prop
  | nil : Pairs h [] []
  | cons {v : Value} {p : Int × Int} {vs : List Value} {ps : List (Int × Int)} : IsPair h v p → Pairs h vs ps → Pairs h (v :: vs) (p :: ps)
theorem Pairs.length {h : Heap} : ∀ {vs : List Value} {ps : List (Int × Int)}, Pairs h vs ps → vs.length = ps.length
  | _, _, .nil => rfl
  | _, _, .cons _ t => by rw [List.length_cons, List.length_cons, t.length]
theorem Pairs.keeps {h h' : Heap} (k : ∀ a o xs n, o.cls = .type "tuple" → o.data = .seq xs n → h.get? a = some o → h'.get? a = some o) : ∀ {vs : List Value} {ps : List (Int × Int)}, Pairs h vs ps → Pairs h' vs ps
  | _, _, .nil => .nil
  | _, _, .cons p t => .cons (p.keeps k) (t.keeps k)
theorem Pairs.get {h : Heap} : ∀ {vs : List Value} {ps : List (Int × Int)} {i : Nat}, Pairs h vs ps → i < vs.length → IsPair h (vs.getD i .none) (ps.getD i (0, 0))
  | _, _, 0, .cons p _, _ => p
  | _, _, i + 1, .cons _ t, hi => by
    have := t.get (i := i) (by simpa using hi)
    simpa using this
theorem Pairs.firsts {h : Heap} : ∀ {vs : List Value} {ps : List (Int × Int)}, Pairs h vs ps → ∃ fs, KatTups h vs fs ∧ fs.length = vs.length ∧ ∀ v ∈ fs, ∃ i t, v = .int i t
  | _, _, .nil => ⟨[], .nil, rfl, fun _ h => nomatch h⟩
  | _, _, .cons p t => by
    obtain ⟨fs, h1, h2, h3⟩ := t.firsts
    obtain ⟨a, x, y, rfl, o, ho, hc, n, hd⟩ := p
    refine ⟨_ :: fs, .cons ho hc hd rfl h1, by rw [List.length_cons, List.length_cons, h2], fun v hv => ?_⟩
    rcases List.mem_cons.mp hv with rfl | hv
    · exact ⟨_, _, rfl⟩
    · exact h3 v hv
end
end Ss
set_option maxHeartbeats 1000000
namespace Ss
open PySem PySem.W PyProof.Rows L2
theorem ns_one {h : Heap} {a : Addr} {m m' : Str → Option Value} (x : h.Ns a m) (y : h.Ns a m') : m = m' := by
  obtain ⟨o, es, ep, e1, e2, _, e3⟩ := x
  obtain ⟨o', es', ep', f1, f2, _, f3⟩ := y
  rw [e1] at f1; cases f1
  rw [e2] at f2; cases f2
  funext x
  rw [← e3, ← f3]
theorem ns_keeps {h h' : Heap} {a : Addr} {m : Str → Option Value} (k : ∀ b u, h.get? b = some u → h'.get? b = some u) (x : h.Ns a m) : h'.Ns a m := by
  obtain ⟨o, es, ep, e1, r⟩ := x
  exact ⟨o, es, ep, k _ _ e1, r⟩
abbrev pick {α : Type} (xs : List α) (d : α) (idx : List Nat) : List α := idx.map fun i => xs.getD i d
section
variable {X : Cx} {pins : List (Addr × Obj)} {σ : L2.St} {H : Hp} {s : Shared} {A : Around} {E : Value → Shared → Prop}
theorem ord_pairs {ps : List (Int × Int)} (hn : ps.Nodup) : Ord (fun i j => ltP (ps.getD i (0, 0)) (ps.getD j (0, 0))) ps.length where
  asym i j h := ltP_asym h
  trans i j k h1 h2 := ltP_trans h1 h2
  tot i j hi hj hij h := by
    refine ltP_tot (fun e => ?_) h
    rw [List.getD_eq_getElem?_getD, List.getD_eq_getElem?_getD, List.getElem?_eq_getElem hi, List.getElem?_eq_getElem hj] at e
    exact hij ((List.getElem_inj hn).mp e)
theorem sorted_pick {ps : List (Int × Int)} {p : Array Nat} (hp : Pm ps.length p) (h : SP (fun i j => ltP (ps.getD i (0, 0)) (ps.getD j (0, 0))) p ps.length) : (pick ps (0, 0) p.toList).Pairwise fun a b => ltP a b = true := by
  rw [List.pairwise_map, List.pairwise_iff_getElem]
  intro i j hi hj hij
  have hs : p.toList.length = ps.length := by rw [Array.length_toList, hp.size]
  have := h i j hij (by omega)
  have e : ∀ k (hk : k < p.toList.length), at_ p k = p.toList[k] := fun k hk => by
    rw [at_eq]
    rw [Array.getElem?_eq_getElem (by simpa using hk)]
    simp
  rw [e i hi, e j hj] at this
  exact this
/-- a list of pairs is sorted -/
theorem list_sort_pairs (I : Inv X pins σ H s) {hh : Heap} {D : Addr} {vs : List Value} {n : Nat} {ps : List (Int × Int)} {P : PySem.Fin → Shared → Prop} (kk : ∀ b u, s.heap.get? b = some u → hh.get? b = some u) (hD : s.heap.get? D = none) (ho : hh.get? D = some (seqObj "list" vs.toArray n)) (hp : Pairs hh vs ps) (hn : ps.Nodup) (h64 : vs.length < 64)
    (h : ∀ h' c idx, (∀ b u, b ≠ X.env.locals → s.heap.get? b = some u → h'.get? b = some u) → (∀ m, s.heap.Ns X.env.locals m → h'.Ns X.env.locals m) → h'.get? D = some (seqObj "list" (pick vs .none idx).toArray c) → idx.Perm (List.range vs.length) → (pick ps (0, 0) idx).Pairwise (fun a b => ltP a b = true) → P (.done (.ret .none)) { s with heap := h' }) :
    wpAny (model X.prog X.w) A (Builtin.«list.sort» ⟨[.ref D], []⟩) P E { s with heap := hh } := by
  have hl := hp.length
  have hDlt := Heap.lt_size ho
  by_cases h2 : vs.length < 2
  · refine sort_few (s := { s with heap := hh }) ho h2 fun h' c k e => ?_
    have e0 : pick vs .none (List.range vs.length) = vs := by
      refine List.ext_getElem (by simp) fun i h1 h2 => ?_
      simp [List.getElem?_eq_getElem h2]
    refine h h' c (List.range vs.length) (fun b u _ q => k b u (fun z => ?_) (kk b u q)) (fun m hm => ?_) (by rw [e0]; exact e) (List.Perm.refl _) ?_
    · rw [z, hD] at q; cases q
    · obtain ⟨o, es, ep, e1, r⟩ := ns_keeps kk hm
      refine ⟨o, es, ep, k _ _ (fun z => ?_) e1, r⟩
      obtain ⟨o', _, _, f1, _⟩ := hm
      rw [z, hD] at f1; cases f1
    · have : (pick ps (0, 0) (List.range vs.length)).length < 2 := by simpa using h2
      match pick ps (0, 0) (List.range vs.length), this with
      | [], _ => exact List.Pairwise.nil
      | [_], _ => exact List.pairwise_singleton _ _
  · have I1 : Inv X pins σ H { s with heap := hh } := I.kept (t' := s.toks) kk
    obtain ⟨m, hm, _⟩ := I1.loc
    have F : Fr X.base X.env.locals hh m := ⟨hm, I1.bk, Nat.le_trans I1.ok.bsz I1.ok.above⟩
    have hDL : D ≠ X.env.locals := fun z => by
      obtain ⟨m', ⟨o', _, _, f1, _⟩, _⟩ := I.loc
      rw [← z, hD] at f1; cases f1
    have hDb : X.base.get? D = none := by
      cases q : X.base.get? D with
      | none => rfl
      | some u => have := I.bk D u q; rw [hD] at this; cases this
    refine kat_list_sort (s := { s with heap := hh }) (news := rest X.base hh X.env.locals D) F (fun p hp => news_all p (List.mem_filter.mp hp).1) ho hDL hDb rest_ne (by omega) h64 fun e1 h1 F1 N1 => ?_
    have kept1 : ∀ b o, b ≠ X.env.locals → b ≠ D → hh.get? b = some o → h1.get? b = some o := kept_of_news I1.bk F1 fun p hp => N1 p (List.mem_cons_of_mem _ hp)
    have hp1 : Pairs h1 vs ps := hp.keeps fun b o xs k hc hd q => kept1 b o (fun z => by
      obtain ⟨o', es, ep, e1, e2, _⟩ := hm
      rw [z, e1] at q; cases q
      rw [e2] at hd; cases hd) (fun z => by
      rw [z, ho] at q; cases q
      exact absurd hc (by show ¬ (Value.type "list" = Value.type "tuple"); decide)) q
    obtain ⟨fs, t1, t2, t3⟩ := hp1.firsts
    refine kat_kind t1 (by omega) (fun v hv => by obtain ⟨i, t, rfl⟩ := t3 v hv; exact Looks.of_pure rfl) rfl ?_
    rw [show (Value.type "int" != Value.type "tuple") = true from rfl]
    have O := ord_pairs hn
    rw [← hl] at O
    refine Run.wp (fun i j hi hj C hC => ask_pair (hp1.get hi) (hp1.get hj) hC) (fun p hpp => ?_) (sort_run O (by omega))
    refine KasFin.intro F1 N1 (UpdF.head rest_ne) fun h2' c F2 N2 => ?_
    have kept2 : ∀ b o, b ≠ X.env.locals → b ≠ D → hh.get? b = some o → h2'.get? b = some o := kept_of_news I1.bk F2 fun p hp => N2 p (List.mem_cons_of_mem _ hp)
    have hpm : Pm ps.length p := by rw [← hl]; exact hpp.1
    have hsp := hpp.2
    rw [hl] at hsp
    refine h h2' c p.toList (fun b u hb q => kept2 b u hb (fun z => ?_) (kk b u q)) (fun m' hm' => ?_) (N2 _ List.mem_cons_self).1 (by rw [hl]; exact hpm.pm) (sorted_pick hpm hsp)
    · rw [z, hD] at q; cases q
    · rw [← ns_one hm (ns_keeps kk hm')]; exact F2.ns
end
end Ss
set_option maxHeartbeats 1000000
namespace Ss
open PySem PySem.W PyProof.Rows L2
section
variable {X : Cx} {pins : List (Addr × Obj)} {σ : L2.St} {H : Hp} {s : Shared} {A : Around} {E : Value → Shared → Prop}
/-- what can be gone through gives these values, and only new things are laid -/
def Src (X : Cx) (s : Shared) (v : Value) (vs : List Value) : Prop := ∀ (A : Around) (E : Value → Shared → Prop) (Q : List Value → Shared → Prop), (∀ hh, (∀ b u, s.heap.get? b = some u → hh.get? b = some u) → Q vs { s with heap := hh }) → wpAny (model X.prog X.w) A (collect v) Q E s
theorem sorted_pairs (I : Inv X pins σ H s) {v : Value} {vs : List Value} {ps : List (Int × Int)} {Q : Value → Shared → Prop} (src : Src X s v vs) (hp : Pairs s.heap vs ps) (hn : ps.Nodup) (h64 : vs.length < 64)
    (h : ∀ h' c D idx, s.heap.get? D = none → (∀ b u, b ≠ X.env.locals → s.heap.get? b = some u → h'.get? b = some u) → (∀ m, s.heap.Ns X.env.locals m → h'.Ns X.env.locals m) → h'.get? D = some (seqObj "list" (pick vs .none idx).toArray c) → idx.Perm (List.range vs.length) → (pick ps (0, 0) idx).Pairwise (fun a b => ltP a b = true) → Q (.ref D) { s with heap := h' }) :
    wpAny (model X.prog X.w) A (call (.builtin "sorted") [v]) Q E s := by
  refine Calls.call_function_entry kind_sorted plain_sorted entry_sorted (args_sorted1 _) ?_
  unfold Builtin.«sorted»
  have sz : vs.length ≤ sizeLine := by rw [sizeLine_eq]; omega
  refine wpAny_bind (m := checkCount "sorted" 1 1 _) (wpAny_pure (wpAny_bind (src _ _ _ fun hh kk => wpAny_bind (wpAny_newList ?_ sz))))
  have at_D : (hh.push (seqObj "list" vs.toArray 0)).get? hh.objs.size = some (seqObj "list" vs.toArray 0) := Heap.get?_push_size _ rfl
  have kp : ∀ b u, s.heap.get? b = some u → (hh.push (seqObj "list" vs.toArray 0)).get? b = some u := fun b u q => Heap.get?_push_of_some _ (kk b u q)
  have hsz : s.heap.get? hh.objs.size = none := by
    cases q : s.heap.get? hh.objs.size with
    | none => rfl
    | some u => exact absurd (Heap.lt_size (kk _ _ q)) (Nat.lt_irrefl _)
  refine wpAny_bind (wpAny_holding (wpAny_call_entry slot_list_sort ⟨_, at_D, rfl⟩ entry_list_sort (list_sort_pairs I kp hsz at_D (hp.keeps fun b o _ _ _ _ q => kp b o q) hn h64 fun h' c idx k1 k2 k3 k4 k5 => ⟨_, rfl, ?_⟩) (args_list_sort _)))
  exact wpAny_pure ⟨_, rfl, h h' c _ idx hsz k1 k2 k3 k4 k5⟩
end
end Ss
set_option maxHeartbeats 1000000
namespace Ss
open PySem PySem.W PyProof.Rows L2
/-! ### one sorted row alone -/
abbrev Up (ps : List (Int × Int)) : Prop := ps.Pairwise fun a b => ltP a b = true
theorem up_one : ∀ {a b : List (Int × Int)}, a.Perm b → Up a → Up b → a = b
  | [], b, h, _, _ => (List.Perm.nil_eq h)
  | x :: a, [], h, _, _ => by have := h.length_eq; simp at this
  | x :: a, y :: b, h, ha, hb => by
    have hx : x = y := by
      have h1 : x ∈ y :: b := h.mem_iff.mp List.mem_cons_self
      have h2 : y ∈ x :: a := h.mem_iff.mpr List.mem_cons_self
      rcases List.mem_cons.mp h1 with e | h1
      · exact e
      · rcases List.mem_cons.mp h2 with e | h2
        · exact e.symm
        · have l1 := (List.pairwise_cons.mp hb).1 x h1
          have l2 := (List.pairwise_cons.mp ha).1 y h2
          have := ltP_asym l1
          rw [l2] at this; cases this
    subst hx
    rw [up_one (List.Perm.cons_inv h) (List.pairwise_cons.mp ha).2 (List.pairwise_cons.mp hb).2]
def insP (x : Int × Int) : List (Int × Int) → List (Int × Int)
  | [] => [x]
  | y :: ys => if ltP x y = true then x :: y :: ys else y :: insP x ys
def sortP : List (Int × Int) → List (Int × Int)
  | [] => []
  | x :: xs => insP x (sortP xs)
theorem insP_perm (x : Int × Int) : ∀ ys : List (Int × Int), (insP x ys).Perm (x :: ys)
  | [] => List.Perm.refl _
  | y :: ys => by
    unfold insP
    split
    · exact List.Perm.refl _
    · exact ((insP_perm x ys).cons y).trans (List.Perm.swap x y ys)
theorem sortP_perm : ∀ ps : List (Int × Int), (sortP ps).Perm ps
  | [] => List.Perm.refl _
  | x :: xs => (insP_perm x _).trans ((sortP_perm xs).cons x)
theorem insP_up {x : Int × Int} : ∀ {ys : List (Int × Int)}, Up ys → x ∉ ys → Up (insP x ys)
  | [], _, _ => List.pairwise_singleton _ _
  | y :: ys, h, hx => by
    obtain ⟨h1, h2⟩ := List.pairwise_cons.mp h
    unfold insP
    split
    · rename_i hl
      refine List.pairwise_cons.mpr ⟨fun z hz => ?_, h⟩
      rcases List.mem_cons.mp hz with rfl | hz
      · exact hl
      · exact ltP_trans hl (h1 z hz)
    · rename_i hl
      have hl : ltP x y = false := by simpa using hl
      have hyx := ltP_tot (fun e => hx (by rw [e]; exact List.mem_cons_self)) hl
      refine List.pairwise_cons.mpr ⟨fun z hz => ?_, insP_up h2 fun z => hx (List.mem_cons_of_mem _ z)⟩
      rcases List.mem_cons.mp ((insP_perm x ys).mem_iff.mp hz) with rfl | hz
      · exact hyx
      · exact h1 z hz
theorem sortP_up : ∀ {ps : List (Int × Int)}, ps.Nodup → Up (sortP ps)
  | [], _ => List.Pairwise.nil
  | x :: xs, h => insP_up (sortP_up (List.nodup_cons.mp h).2) fun z => (List.nodup_cons.mp h).1 ((sortP_perm xs).mem_iff.mp z)
/-! ### over the heap's rules -/
inductive PairV (K : PySem.W.Frag) (H : Hp) : List V → List (Int × Int) → Prop
  | nil : PairV K H [] []
  | cons {a : Addr} {p : Int × Int} {xs : List V} {ps : List (Int × Int)} : L2.SqT K H a [.int p.1, .int p.2] → PairV K H xs ps → PairV K H (.ref a :: xs) (p :: ps)
theorem PairV.length {K : PySem.W.Frag} {H : Hp} : ∀ {xs : List V} {ps : List (Int × Int)}, PairV K H xs ps → xs.length = ps.length
  | _, _, .nil => rfl
  | _, _, .cons _ t => by rw [List.length_cons, List.length_cons, t.length]
def rSortedP (K : PySem.W.Frag) : List V → Hp → VK → Prop := fun vs H Q => ∃ a xs ps, vs = [V.ref a] ∧ (SqL K H a xs ∨ L2.SqT K H a xs) ∧ PairV K H xs ps ∧ ps.Nodup ∧ xs.length < 64 ∧
  ∀ idx p, idx.Perm (List.range xs.length) → Up (pick ps (0, 0) idx) → H p = none → Q (.ref p) (upd H p (.lst (pick xs .non idx)))
section
variable {X : Cx} {pins : List (Addr × Obj)} {σ : L2.St} {H : Hp} {s : Shared}
theorem PairV.pairs (I : L2.Inv X pins σ H s) : ∀ {xs : List V} {ps : List (Int × Int)} {vs : List Value}, PairV X.K H xs ps → Vals xs vs → Pairs s.heap vs ps
  | _, _, _, .nil, .nil => .nil
  | _, _, _, .cons h t, .cons r rs => by
    obtain ⟨its, rv, ht, _⟩ := I.tuple h
    cases rv with
    | cons r1 rv =>
      cases rv with
      | cons r2 rv =>
        cases rv
        obtain ⟨t1, rfl⟩ := r1
        obtain ⟨t2, rfl⟩ := r2
        cases r
        exact .cons ⟨_, t1, t2, rfl, ht⟩ (PairV.pairs I t rs)
theorem vals_pick {xs : List V} {vs : List Value} (r : Vals xs vs) : ∀ idx : List Nat, (∀ i ∈ idx, i < xs.length) → Vals (pick xs .non idx) (pick vs .none idx)
  | [], _ => .nil
  | i :: idx, h => by
    refine .cons ?_ (vals_pick r idx fun j hj => h j (List.mem_cons_of_mem _ hj))
    have hi := h i List.mem_cons_self
    clear h
    induction r generalizing i with
    | nil => cases hi
    | cons r t ih =>
      cases i with
      | zero => exact r
      | succ i => exact ih i (by simpa using hi)
theorem cr_sortedP : CallR X (.builtin "sorted") (rSortedP X.K) := by
  intro pins s σ H vs us Q I r h
  obtain ⟨a, xs, ps, rfl, hx, hp, hn, h64, q⟩ := h
  rw [Vals.ref1 r]
  have go : ∀ its : List Value, Vals xs its → Src X s (.ref a) its → wpAny (model X.prog X.w) X.A (call (.builtin "sorted") [.ref a]) (EP X pins σ Q) X.xe s := fun its rv src => by
    have hl := rv.length
    refine sorted_pairs I src (hp.pairs I rv) hn (by omega) fun h' c D idx hD k1 k2 k3 k4 k5 => ?_
    rw [← hl] at k4
    have hidx : ∀ i ∈ idx, i < xs.length := fun i hi => List.mem_range.mp (k4.mem_iff.mp hi)
    have hlen : (pick xs .non idx).length ≤ sizeLine := by
      have := k4.length_eq
      rw [List.length_range] at this
      rw [List.length_map, sizeLine_eq]; omega
    exact ⟨.ref D, upd H D (.lst (pick xs .non idx)), I.laidF (o := .lst (pick xs .non idx)) (t' := s.toks) k1 k2 hD ⟨hlen, _, c, vals_pick rv idx hidx, k3⟩, rfl, q idx D k4 k5 (I.out hD)⟩
  rcases hx with hx | hx
  · obtain ⟨its, rv, ⟨o, n, e, c, _, d⟩, hz⟩ := I.list hx
    exact go its rv fun A E Q' hq => wpAny_collect_seq a (.inl rfl) e c d hq (by rw [List.size_toArray, ← rv.length]; exact hz)
  · obtain ⟨its, rv, ⟨o, e, c, n, d⟩, hz⟩ := I.tuple hx
    exact go its rv fun A E Q' hq => wpAny_collect_seq a (.inr rfl) e c d hq (by rw [List.size_toArray, ← rv.length]; exact hz)
end
end Ss
namespace Q2
open PySem L2 Ss
/-! ### sorted(..) of pairs over data trees -/
abbrev pairD (p : Int × Int) : D := .tup [.int p.1, .int p.2]
def pairOf : D → Option (Int × Int)
  | .tup [.int i, .int j] => some (i, j)
  | _ => none
theorem pairOf_some {d : D} {p : Int × Int} (h : pairOf d = some p) : d = pairD p := by
  unfold pairOf at h
  split at h
  · cases h; rfl
  · cases h
def prs (ds : List D) : Option (List (Int × Int)) := mapO pairOf ds
theorem prs_some : ∀ {ds : List D} {ps : List (Int × Int)}, prs ds = some ps → ds = ps.map pairD
  | [], _, h => by cases h; rfl
  | d :: ds, ps, h => by
    obtain ⟨p, e1, h⟩ := Option.bind_eq_some_iff.mp (show (pairOf d).bind _ = some ps from h)
    obtain ⟨qs, e2, h⟩ := Option.map_eq_some_iff.mp h
    subst h
    rw [pairOf_some e1, prs_some e2]; rfl
theorem prs_of : ∀ ps : List (Int × Int), prs (ps.map pairD) = some ps
  | [] => rfl
  | p :: ps => by
    have e : prs (pairD p :: ps.map pairD) = (prs (ps.map pairD)).map fun ys => p :: ys := rfl
    show prs (pairD p :: ps.map pairD) = _
    rw [e, prs_of ps]; rfl
def fSorted : Fn := fn1 fun d S => (itemsD d S).bind fun ds => (prs ds).bind fun ps => if ps.Nodup ∧ ps.length < 64 then some (.loc S.length, S ++ [.lst ((sortP ps).map pairD)]) else none
theorem relL_pairs {K H ρ} : ∀ {ps : List (Int × Int)} {vs : List V}, RelL K H ρ (ps.map pairD) vs → PairV K H vs ps
  | [], _, h => by cases h; exact .nil
  | p :: ps, _, h => by
    cases h with
    | cons r t =>
      cases r with
      | tup h1 rl =>
        cases rl with
        | cons r1 rl =>
          cases rl with
          | cons r2 rl =>
            cases rl
            cases r1
            cases r2
            exact .cons h1.any (relL_pairs t)
theorem relL_pick {K H ρ} {ds : List D} {vs : List V} (r : RelL K H ρ ds vs) : ∀ idx : List Nat, (∀ i ∈ idx, i < vs.length) → RelL K H ρ (pick ds .non idx) (pick vs .non idx)
  | [], _ => .nil
  | i :: idx, h => by
    refine .cons ?_ (relL_pick r idx fun j hj => h j (List.mem_cons_of_mem _ hj))
    have hi := h i List.mem_cons_self
    have hi' : i < ds.length := by rw [r.length]; exact hi
    obtain ⟨v, e1, e2⟩ := r.get (List.getElem?_eq_getElem hi')
    show Rel K H ρ (ds.getD i D.non) (vs.getD i V.non)
    rw [List.getD_eq_getElem?_getD, List.getD_eq_getElem?_getD, e1, List.getElem?_eq_getElem hi']
    exact e2
theorem pick_map {ps : List (Int × Int)} : ∀ idx : List Nat, (∀ i ∈ idx, i < ps.length) → pick (ps.map pairD) .non idx = (pick ps (0, 0) idx).map pairD
  | [], _ => rfl
  | i :: idx, h => by
    have hi := h i List.mem_cons_self
    show (ps.map pairD).getD i .non :: pick (ps.map pairD) .non idx = pairD (ps.getD i (0, 0)) :: (pick ps (0, 0) idx).map pairD
    rw [pick_map idx fun j hj => h j (List.mem_cons_of_mem _ hj), List.getD_eq_getElem?_getD, List.getD_eq_getElem?_getD, List.getElem?_map, List.getElem?_eq_getElem hi]; rfl
theorem pick_perm {ps : List (Int × Int)} {idx : List Nat} (h : idx.Perm (List.range ps.length)) : (pick ps (0, 0) idx).Perm ps := by
  refine (h.map _).trans ?_
  have : (List.range ps.length).map (fun i => ps.getD i (0, 0)) = ps := by
    refine List.ext_getElem (by simp) fun i h1 h2 => ?_
    simp [List.getElem?_eq_getElem h2]
  rw [this]
theorem s_sorted {K : PySem.W.Frag} : CallS K (rSortedP K) fSorted := by
  refine s_fn1 fun x v H ρ S d S' Q r ok e k => ?_
  obtain ⟨ds, e1, e⟩ := Option.bind_eq_some_iff.mp e
  obtain ⟨ps, e2, e⟩ := Option.bind_eq_some_iff.mp e
  by_cases hc : ps.Nodup ∧ ps.length < 64
  · have e' := (if_pos hc).symm.trans e
    cases e'
    obtain ⟨a, vs, rfl, rl, hq⟩ := items_ok ok r e1
    have e2' := prs_some e2
    subst e2'
    have pv := relL_pairs rl
    have hl := pv.length
    refine ⟨a, vs, ps, rfl, hq.imp id SqT.any, pv, hc.1, by omega, fun idx p h1 h2 hp => ?_⟩
    rw [hl] at h1
    have hidx : ∀ i ∈ idx, i < ps.length := fun i hi => List.mem_range.mp (h1.mem_iff.mp hi)
    have es : pick ps (0, 0) idx = sortP ps := up_one ((pick_perm h1).trans (sortP_perm ps).symm) h2 (sortP_up hc.1)
    have rp := relL_pick rl idx fun i hi => by rw [hl]; exact hidx i hi
    rw [pick_map idx hidx, es] at rp
    obtain ⟨z1, z2, z3⟩ := ok.lastL hp rp
    exact k _ _ _ z1 z2 z3
  · have e' := (if_neg hc).symm.trans e
    cases e'
end Q2
namespace Q2
open PySem L2 Ss
theorem q_sorted {X : Cx} {e : Expr} {p pos : Pos} {mr : EvA} (hm : X.mg "sorted" = none) (ha : QA X [e] mr) (hg : Gl X "sorted" := by rfl) (he : starEach [e] X.env = (false, eval e X.env) :: starEach [] X.env := by rfl) (hpl : (backTo pos (starEach [] X.env)).any (·.1) = false := by rfl) : QE X (.Call (.Name "sorted" p) [e] [] pos) (evF fSorted mr) :=
  q_callB cr_sortedP s_sorted hm (by decide +kernel) ha hg (by decide) (by decide) he hpl
end Q2
set_option maxHeartbeats 1000000
namespace Us
open PySem PySem.SetTable Ss PyProof.Rows
/-! ### sets of pairs -/
abbrev pk (p : Int × Int) : List Int := [p.1, p.2]
abbrev hP (prog : Program) (w : World) (p : Int × Int) : Int := tupleKeyHash (intKind prog w) (pk p)
inductive El (prog : Program) (w : World) (M : Value → Prop) (h : Heap) : List (Int × Value) → List (Int × Int) → Prop
  | nil : El prog w M h [] []
  | cons {v : Value} {p : Int × Int} {l : List (Int × Value)} {kl : List (Int × Int)} : IsPair h v p ∧ M v → El prog w M h l kl → El prog w M h ((hP prog w p, v) :: l) (p :: kl)
section
variable {prog : Program} {w : World} {M : Value → Prop} {h : Heap}
theorem El.len : ∀ {l : List (Int × Value)} {kl : List (Int × Int)}, El prog w M h l kl → l.length = kl.length
  | _, _, .nil => rfl
  | _, _, .cons _ t => by rw [List.length_cons, List.length_cons, t.len]
theorem El.get : ∀ {l : List (Int × Value)} {kl : List (Int × Int)}, El prog w M h l kl → ∀ {i : Nat} {e : Int × Value}, l[i]? = some e → ∃ p, kl[i]? = some p ∧ IsPair h e.2 p ∧ e.1 = hP prog w p
  | _, _, .nil, i, e, h => by simp at h
  | _, _, .cons x t, 0, e, h => by
    have h : some _ = some e := h
    cases h
    exact ⟨_, rfl, x.1, rfl⟩
  | _, _, .cons x t, i + 1, e, h => t.get (i := i) h
theorem El.app : ∀ {l l' : List (Int × Value)} {kl kl' : List (Int × Int)}, El prog w M h l kl → El prog w M h l' kl' → El prog w M h (l ++ l') (kl ++ kl')
  | _, _, _, _, .nil, t => t
  | _, _, _, _, .cons x t, t' => .cons x (t.app t')
theorem El.mem : ∀ {l : List (Int × Value)} {kl : List (Int × Int)}, El prog w M h l kl → ∀ e ∈ l, M e.2
  | _, _, .nil, e, he => by cases he
  | _, _, .cons x t, e, he => by
    rcases List.mem_cons.mp he with rfl | he
    · exact x.2
    · exact t.mem e he
theorem El.take : ∀ {l : List (Int × Value)} {kl : List (Int × Int)} (n : Nat), El prog w M h l kl → El prog w M h (l.take n) (kl.take n)
  | _, _, 0, _ => .nil
  | _, _, n + 1, .nil => .nil
  | _, _, n + 1, .cons x t => .cons x (t.take n)
theorem El.drop : ∀ {l : List (Int × Value)} {kl : List (Int × Int)} (n : Nat), El prog w M h l kl → El prog w M h (l.drop n) (kl.drop n)
  | _, _, 0, t => t
  | _, _, n + 1, .nil => .nil
  | _, _, n + 1, .cons x t => t.drop n
theorem El.keeps {h' : Heap} (k : ∀ (a : Addr) (o : Obj) (xs : Array Value) (n : Nat), o.cls = .type "tuple" → o.data = .seq xs n → h.get? a = some o → h'.get? a = some o) : ∀ {l : List (Int × Value)} {kl : List (Int × Int)}, El prog w M h l kl → El prog w M h' l kl
  | _, _, .nil => .nil
  | _, _, .cons x t => .cons ⟨x.1.keeps k, x.2⟩ (El.keeps k t)
end
/-- a table that holds its elements well -/
structure TOk (t : SetTable) (es : Array (Int × Value)) : Prop where
  size : t.place.size = es.size
  rise : Rise t.place
  dum : t.dummies = #[]
  le : ∀ (i j : Nat), t.place[i]? = some j → j ≤ t.mask
  msk : Msk t.mask
  plain : t.plain = true
  room : es.size * 5 < t.mask * 3
  reach : ∀ (i j : Nat) (e : Int × Value), t.place[i]? = some j → es[i]? = some e → ∃ n, (nth t n (t.probeStart e.1)).j = j ∧ ∀ m < n, ∃ i' : Nat, t.place[i']? = some (nth t m (t.probeStart e.1)).j
section
variable {prog : Program} {w : World} {A : Around} {E : Value → Shared → Prop} {s : Shared}
end
end Us
set_option maxHeartbeats 1000000
namespace Us
open PySem PySem.SetTable Ss PyProof.Rows
section
variable {prog : Program} {w : World} {M : Value → Prop} {A : Around} {E : Value → Shared → Prop} {s : Shared}
end
end Us
set_option maxHeartbeats 1000000
namespace Us
open PySem PySem.SetTable Ss PyProof.Rows
end Us
set_option maxHeartbeats 1000000
namespace Us
open PySem PySem.SetTable Ss PyProof.Rows
/-- a set object of pairs -/
structure PSet (prog : Program) (w : World) (M : Value → Prop) (h : Heap) (S : Addr) (kl : List (Int × Int)) (led : Bool) : Prop where
  ex : ∃ o es ep t, h.get? S = some o ∧ o.ExactSet ∧ o.data = .set es ep t ∧ TOk t es ∧ t.led = led ∧ El prog w M h es.toList kl
  nd : kl.Nodup
/-- the same, the elements looked at in an earlier heap -/
structure PSetB (prog : Program) (w : World) (M : Value → Prop) (h₀ h : Heap) (S : Addr) (kl : List (Int × Int)) (led : Bool) : Prop where
  ex : ∃ o es ep t, h.get? S = some o ∧ o.ExactSet ∧ o.data = .set es ep t ∧ TOk t es ∧ t.led = led ∧ El prog w M h₀ es.toList kl
  nd : kl.Nodup
section
variable {prog : Program} {w : World} {M : Value → Prop} {A : Around} {E : Value → Shared → Prop} {s : Shared}
end
end Us
set_option maxHeartbeats 2000000
namespace Us
open PySem PySem.SetTable Ss PyProof.Rows
namespace F2
end F2
/-- whether the order of sets is the text's -/
abbrev byT (w : World) : Bool := w.params.followText "set-order"
section
variable {prog : Program} {w : World} {A : Around} {E : Value → Shared → Prop} {s : Shared}
/-- where the next search starts -/
def slotAt (w : World) (t : SetTable) : Nat → Int
  | 0 => 0
  | i + 1 => if byT w = true then 0 else ((t.place.getD i 0 + 1 : Nat) : Int)
structure IsSetIter (w : World) (h : Heap) (I S : Addr) (es : Array (Int × Value)) (ep : Nat) (t : SetTable) (i : Nat) : Prop where
  it : ∃ o, h.get? I = some o ∧ o.cls = .type "set_iterator" ∧ ∃ a b c d : Tok, o.data = .fields #[.int (slotAt w t i) a, .int i b, .ref S, .int es.size c, .int ep d]
  st : ∃ o, h.get? S = some o ∧ o.ExactSet ∧ o.data = .set es ep t
  ok : TOk t es
  led : t.led = !byT w
theorem IsSetIter.typeIs {s : Shared} {I S : Addr} {es : Array (Int × Value)} {ep : Nat} {t : SetTable} {i : Nat} (x : IsSetIter w s.heap I S es ep t i) : s.TypeIs (.ref I) "set_iterator" := let ⟨o, h1, h2, _⟩ := x.it; ⟨o, h1, h2⟩
end
end Us
set_option maxHeartbeats 2000000
namespace Us
open PySem PySem.SetTable Ss PyProof.Rows
section
variable {prog : Program} {w : World} {M : Value → Prop} {A : Around} {E : Value → Shared → Prop} {s : Shared}
theorem El.perm {h : Heap} {l l' : List (Int × Value)} (p : l.Perm l') : ∀ {kl : List (Int × Int)}, El prog w M h l kl → ∃ kl', El prog w M h l' kl' ∧ kl'.Perm kl := by
  induction p with
  | nil => intro kl e; exact ⟨kl, e, List.Perm.refl _⟩
  | cons x _ ih =>
    intro kl e
    cases e with
    | cons a t =>
      obtain ⟨kl', b, c⟩ := ih t
      exact ⟨_ :: kl', .cons a b, c.cons _⟩
  | swap x y l =>
    intro kl e
    cases e with
    | cons a t =>
      cases t with
      | cons b t => exact ⟨_, .cons b (.cons a t), List.Perm.swap ..⟩
  | trans _ _ ih1 ih2 =>
    intro kl e
    obtain ⟨k1, a1, b1⟩ := ih1 e
    obtain ⟨k2, a2, b2⟩ := ih2 a1
    exact ⟨k2, a2, b2.trans b1⟩
theorem El.pairs {h : Heap} : ∀ {l : List (Int × Value)} {kl : List (Int × Int)}, El prog w M h l kl → Ss.Pairs h (l.map (·.2)) kl
  | _, _, .nil => .nil
  | _, _, .cons a t => .cons a.1 t.pairs
end
end Us
set_option maxHeartbeats 4000000
namespace Us
open PySem PySem.SetTable Ss PyProof.Rows
section
variable {prog : Program} {w : World} {M : Value → Prop} {A : Around} {E : Value → Shared → Prop} {s : Shared}
end
end Us
set_option maxHeartbeats 4000000
namespace Us
open PySem PySem.SetTable Ss PyProof.Rows
namespace F2
end F2
section
variable {prog : Program} {w : World} {M : Value → Prop} {A : Around} {E : Value → Shared → Prop} {s : Shared}
/-- a list or a tuple, as what a set is made of -/
structure Source (h : Heap) (l : Addr) (items : Array Value) : Prop where
  ex : h.IsList l items ∨ IsTup h l items
end
end Us
set_option maxHeartbeats 4000000
namespace Us
open PySem PySem.SetTable Ss PyProof.Rows
section
variable {prog : Program} {w : World} {M : Value → Prop} {A : Around} {E : Value → Shared → Prop} {s : Shared}
end
end Us
set_option maxHeartbeats 1000000
namespace Q2
open PySem L2 PyProof.Rows
section
variable {X : Cx} {a b c e o : Expr} {ma mb mc m mo : Ev} {pos p apos cpos : Pos} {mr : EvA}
/-! ### a < b < c -/
def evCh (o1 o2 : Op2) (ma mb mc : Ev) : Ev := fun σ S => (ma σ S).bind fun p => (mb σ p.2).bind fun q => (o1 p.1 q.1 q.2).bind fun z => match z.1 with
  | .bl true => (mc σ z.2).bind fun w => o2 q.1 w.1 w.2
  | .bl false => some (.bl false, z.2)
  | _ => none
theorem t_ch {K : PySem.W.Frag} {r r' : R2} {o1 o2 : Op2} (h1 : OpS K r o1) (h2 : OpS K r' o2) : ∀ (σ : L2.St) (H : Hp) (Q : VK), T K (evCh o1 o2 ma mb mc) σ H Q → tChain r r' (T K ma) (T K mb) (T K mc) σ H Q := fun σ H Q h => by
  obtain ⟨σd, S, ρ, d, S', so, ok, e, k⟩ := h
  obtain ⟨⟨x, S1⟩, e1, e⟩ := Option.bind_eq_some_iff.mp e
  obtain ⟨⟨y, S2⟩, e2, e⟩ := Option.bind_eq_some_iff.mp e
  obtain ⟨⟨z, S3⟩, e3, e⟩ := Option.bind_eq_some_iff.mp e
  refine ⟨σd, S, ρ, x, S1, so, ok, e1, fun v H1 ρ1 x1 ok1 r1 => ?_⟩
  refine ⟨σd, S1, ρ1, y, S2, so.mono x1, ok1, e2, fun u H2 ρ2 x2 ok2 r2 => ?_⟩
  refine h1 x y v u H2 ρ2 S2 z S3 _ (r1.mono x2) r2 ok2 e3 fun zv H3 ρ3 x3 ok3 r3 => ?_
  cases r3 with
  | bl t =>
    refine ⟨t, rfl, ?_⟩
    cases t with
    | false =>
      rw [if_neg (by simp)]
      cases e
      exact k _ H3 ρ3 (x1.trans (x2.trans x3)) ok3 (.bl false)
    | true =>
      rw [if_pos rfl]
      obtain ⟨⟨w, S4⟩, e4, e⟩ := Option.bind_eq_some_iff.mp e
      refine ⟨σd, S3, ρ3, w, S4, (so.mono x1).mono (x2.trans x3), ok3, e4, fun wv H4 ρ4 x4 ok4 r4 => ?_⟩
      exact h2 y w u wv H4 ρ4 S4 d S' Q ((r2.mono x3).mono x4) r4 ok4 e fun v5 H5 ρ5 x5 ok5 r5 => k v5 H5 ρ5 (x1.trans (x2.trans (x3.trans (x4.trans x5)))) ok5 r5
  | _ => cases e
theorem q_tch {op op' : CmpOp} {r r' : R2} {o1 o2 : Op2} (ho : OpR X (compareOp op) r) (ho' : OpR X (compareOp op') r') (h1 : OpS X.K r o1) (h2 : OpS X.K r' o2) (ha : QE X a ma) (hb : QE X b mb) (hc : QE X c mc) (hm : lastMarks [op, op'] [b, c] = false := by with_unfolding_all rfl) : QT X (.Compare a [op, op'] [b, c] pos) (evB (evCh o1 o2 ma mb mc)) := ⟨PT.imp (pt_chain ho ho' ha.ok hb.ok hc.ok hm) fun σ H Q h => by
  refine t_ch h1 h2 σ H _ ?_
  obtain ⟨σd, S, ρ, t, S', so, ok, e, k⟩ := h
  obtain ⟨⟨z, S1⟩, e1, e⟩ := Option.bind_eq_some_iff.mp e
  refine ⟨σd, S, ρ, z, S1, so, ok, e1, fun v H1 ρ1 x1 ok1 r1 => ?_⟩
  cases r1 with
  | bl q => cases e; exact ⟨_, rfl, k H1 ρ1 x1 ok1⟩
  | _ => cases e⟩
/-! ### xs.extend(ys) -/
/-! ### max(xs) of whole numbers -/
/-! ### xs.count(n) of whole numbers -/
end
end Q2
set_option maxHeartbeats 1000000
namespace L2
open PySem PySem.Spec PyProof.Rows
section
variable {prog : Program} {w : World} {A : Around} {E : Value → Shared → Prop}
end
section
variable {X : Cx} {pos : Pos}
end
end L2
namespace Q2
open PySem L2
section
variable {X : Cx} {e : Expr} {es : List Expr} {m : Ev} {pos tpos : Pos}
/-! ### a, b, c = a list -/
/-! ### i & j -/
end
end Q2
set_option maxHeartbeats 1000000
namespace L2
open PySem PySem.Spec PyProof.Rows
/-! ### sum and max over tuples -/
section
variable {prog : Program} {w : World} {A : Around} {E : Value → Shared → Prop} {s : Shared} {t : Addr} {us : List Value} {ns : List Int} {Q : Value → Shared → Prop}
end
end L2
namespace L2
open PySem PySem.Spec PyProof.Rows
section
variable {X : Cx}
end
end L2
namespace Q2
open PySem PySem.Spec L2
section
variable {X : Cx} {e : Expr} {mr : EvA} {p pos : Pos}
end
end Q2
set_option maxHeartbeats 2000000
namespace PySem
open Sem (wp)
section
variable {prog : Program} {w : World} {A : Around} {E : Value → Shared → Prop}
end
end PySem
namespace L2
open PySem PySem.Spec PyProof.Rows
open Q2 (CodeT)
section
variable {X : Cx} {elt tg iter : Expr} {ifs : List Expr} {scope : Scope} {own : List (Str × Nat)} {gpos p pos : Pos} {wi : TI} {g : TG} {tt : TT} {te : TE} {c P : Addr} {k : Nat}
theorem GRest.tok {s0 : Shared} {H0 : Hp} {e : Expr} {it : Addr} {ce : Env} {fp : List Addr} {tn : Nat → Heap → Prop} {σw : St} {a g : Nat} {oa : Obj} {pe : List (Addr × Obj)} {i : Nat} {H : Hp} {s : Shared} {tk : Nat}
    (G : GRest X s0 H0 e it ce fp tn σw a g oa pe i H s) : GRest X s0 H0 e it ce fp tn σw a g oa pe i H { s with toks := tk } := by
  obtain ⟨isg, rest, ⟨A0, g0, I⟩, st, nfp, gp⟩ := G
  exact ⟨isg, rest, ⟨A0, g0, I.turnedL (h' := s.heap) (t' := tk) (ch := []) (fun _ _ _ e => e) fun b hb => absurd hb List.not_mem_nil⟩, st, nfp, gp⟩
end
end L2
namespace Q2
open PySem L2
section
variable {X : Cx} {elt tgE iter : Expr} {ifs : List Expr} {scope : Scope} {gpos p pos : Pos} {it : EvI} {tg : Tg} {tt : EvT} {te : Ev} {c P : Addr} {k : Nat}
end
end Q2
set_option maxHeartbeats 2000000
namespace PySem
open Sem (wp)
/-! ### generator expressions with two clauses: a run up to its next yield -/
section
variable {M : Model} {A : Around} {F : End → Shared → Prop} {c : Code} {s : Shared}
end
/-- the frame in which the first clause waits for the second -/
def Waits (co : Code) (fr : Frame) : Prop := ∃ k l p, fr = .ret k none false l co p [] ∧ k (.ok .next) = .pure (.again co)
abbrev asks (ifs : List Expr) (env : Env) : Sem Bool := forIn ifs true fun c r => if r = true then (isTrue c env (eval c env) >>= fun ok => pure (ForInStep.yield ok)) else pure (ForInStep.yield r)
section
variable (elt t0 i0 t1 i1 : Expr) (f0 f1 : List Expr) (scope : Scope) (pos : Pos) (it : Value) (env : Env)
end
section
variable {prog : Program} {w : World} {A : Around} {F : End → Shared → Prop} {elt t0 i0 t1 i1 : Expr} {f0 f1 : List Expr} {scope : Scope} {pos : Pos} {it : Value} {env : Env}
end
end PySem
set_option maxHeartbeats 2000000
namespace PySem
open Sem (wp)
section
variable {M : Model} {A : Around} {E : Value → Shared → Prop} {s : Shared}
end
end PySem
set_option maxHeartbeats 4000000
namespace PySem
end PySem
namespace L2
open PySem PySem.Spec PyProof.Rows
abbrev gLoop1 (e : Expr) (j : Addr) (ce : Env) : Code := .compLoop e 1 (.ref j) .none ce
/-- the second clause's iterator, its slots, its place -/
abbrev InSt := It × St × Nat
/-- the second clause rests: the first one's iterator is pinned -/
structure GIn (X : Cx) (Xg : Cx) (tg1 : Expr) (fp : List Addr) (tn : Nat → Heap → Prop) (σw : St) (a : Addr) (oa : Obj) (pe : List (Addr × Obj)) (it1 : Addr) (q : InSt) (i : Nat) (H : Hp) (s : Shared) : Prop where
  has : ∃ (fp1 : List Addr) (tn1 : Nat → Heap → Prop) (po : List (Addr × Obj)), Inv Xg ((a, oa) :: (pe ++ po)) q.2.1 H s ∧ Turn X.prog X.w X.K tg1 q.1 fp1 it1 tn1 ∧ tn1 q.2.2 s.heap ∧ (∀ b ∈ fp1, FpOk Xg ((a, oa) :: (pe ++ po)) H b) ∧ (∀ p ∈ po, p.1 ∈ fp) ∧ (∀ b ∈ fp, ∃ o, (b, o) ∈ po) ∧ (∀ h' : Heap, (∀ p ∈ po, h'.get? p.1 = some p.2) → tn i h')
  len : σw.length = q.2.1.length
  sub : ∀ (k : Nat) v, σw[k]? = some (some v) → q.2.1[k]? = some (some v)
structure GRest2 (X : Cx) (s0 : Shared) (H0 : Hp) (e tg1 : Expr) (it : Addr) (ce : Env) (fp : List Addr) (tn : Nat → Heap → Prop) (σw : St) (a g : Nat) (oa : Obj) (pe : List (Addr × Obj)) (q : Option InSt) (i : Nat) (H : Hp) (s : Shared) : Prop where
  isg : s.heap.IsGen a g
  gp : GP s0.gens s.gens
  rest : match q with
    | none => s.gens[g]? = some (.fresh (gStart e it ce)) ∧ (∃ A0 g0, Inv (X.gen A0 { s0 with gens := g0 } H0 ce fp) ((a, oa) :: pe) σw H s) ∧ tn i s.heap ∧ ∀ b ∈ fp, H b = none
    | some q => ∃ it1 k l p fr A0 g0, s.gens[g]? = some (.suspended k l (gLoop1 e it1 ce) p [fr] false) ∧ k (.send .none) = .pure (.again (gLoop1 e it1 ce)) ∧ Waits (gLoop e it ce) fr ∧ GIn X (X.gen A0 { s0 with gens := g0 } H0 ce fp) tg1 fp tn σw a oa pe it1 q i H s
section
variable {X : Cx} {s0 : Shared} {H0 : Hp} {elt tg iter tg1 iter1 : Expr} {ifs ifs1 : List Expr} {scope : Scope} {gpos : Pos} {it a gn : Nat} {ce : Env} {fp : List Addr} {tn : Nat → Heap → Prop} {σ : St} {vs vs1 : List Nat} {oa : Obj} {pe : List (Addr × Obj)} {J : It} {g g1 : TG} {tt tt1 : TT} {te : TE} {wi1 : TI}
theorem GIn.regen {A A' : Around} {g0 g1 : Array GenState} {σw : St} {it1 : Addr} {q : InSt} {i : Nat} {H : Hp} {s : Shared} (G : GIn X (X.gen A { s0 with gens := g0 } H0 ce fp) tg1 fp tn σw a oa pe it1 q i H s) (hA : A'.handled = none) (hF : A'.frames = some (ce :: X.stack)) {g' : Array GenState} (hG : GP g1 g') :
    GIn X (X.gen A' { s0 with gens := g1 } H0 ce fp) tg1 fp tn σw a oa pe it1 q i H { s with gens := g' } := by
  obtain ⟨⟨fp1, tn1, po, I, T1, st1, f1, h1, h2, h3⟩, hl, hs⟩ := G
  exact ⟨⟨fp1, tn1, po, I.regen hA hF hG, T1, st1, f1, h1, h2, h3⟩, hl, hs⟩
end
end L2
set_option maxHeartbeats 4000000
namespace L2
open PySem PySem.Spec PyProof.Rows
open Q2 (CodeT)
section
variable {X : Cx} {pins : List (Addr × Obj)} {σ : St} {H : Hp} {s : Shared} {E : Value → Shared → Prop}
end
section
variable {X : Cx} {elt tg iter tg1 iter1 : Expr} {ifs ifs1 : List Expr} {scope : Scope} {own : List (Str × Nat)} {gpos p pos : Pos} {wi wi1 : TI} {g g1 : TG} {tt tt1 : TT} {te : TE} {c P : Addr} {k : Nat} {vs1 : List Nat}
end
end L2
set_option maxHeartbeats 4000000
namespace Q2
open PySem L2
/-! ### tuple(.. for .. for ..) -/
section
variable {X : Cx} {elt tgE iter tgE1 iter1 : Expr} {ifs ifs1 : List Expr} {scope : Scope} {gpos p pos : Pos} {it it1 : EvI} {tg tg1 : Tg} {tt tt1 : EvT} {te : Ev} {c P : Addr} {k : Nat}
end
end Q2
set_option maxHeartbeats 1000000
namespace Q2
open PySem L2
/-! ### dicts over data trees -/
section
variable {κ : Type} [DecidableEq κ]
inductive RKV (K : PySem.W.Frag) (H : Hp) (ρ : List Addr) : List (κ × D) → List (κ × V) → Prop
  | nil : RKV K H ρ [] []
  | cons {k : κ} {d : D} {v : V} {kvs : List (κ × D)} {kvv : List (κ × V)} : Rel K H ρ d v → RKV K H ρ kvs kvv → RKV K H ρ ((k, d) :: kvs) ((k, v) :: kvv)
theorem RKV.of {K H ρ} : ∀ {kvs : List (κ × D)} {kvv : List (κ × V)}, kvv.map (·.1) = kvs.map (·.1) → RelL K H ρ (kvs.map (·.2)) (kvv.map (·.2)) → RKV K H ρ kvs kvv
  | [], [], _, _ => .nil
  | [], _ :: _, e, _ => by cases e
  | _ :: _, [], e, _ => by cases e
  | (k, d) :: kvs, (k', v) :: kvv, e, r => by
    rw [List.map_cons, List.map_cons] at e r
    injection e with e1 e2
    have e1 : k' = k := e1
    subst e1
    cases r with
    | cons r t => exact .cons r (RKV.of e2 t)
theorem RKV.mono {K H ρ H' ρ'} (e : Ex K H ρ H' ρ') : ∀ {kvs : List (κ × D)} {kvv : List (κ × V)}, RKV K H ρ kvs kvv → RKV K H' ρ' kvs kvv
  | _, _, .nil => .nil
  | _, _, .cons r t => .cons (r.mono e) (t.mono e)
theorem RKV.length {K H ρ} : ∀ {kvs : List (κ × D)} {kvv : List (κ × V)}, RKV K H ρ kvs kvv → kvs.length = kvv.length
  | _, _, .nil => rfl
  | _, _, .cons _ t => by rw [List.length_cons, List.length_cons, t.length]
end
/-- what a dict's cell says of its object -/
def DOk (K : PySem.W.Frag) (H : Hp) (ρ : List Addr) : Cell → HO → Prop
  | .dk kvs, .dK kvv => RKV K H ρ kvs kvv
  | .dt kvs, .dT kvv => RKV K H ρ kvs kvv
  | _, _ => False
theorem DOk.mono {K H ρ H' ρ' c u} (e : Ex K H ρ H' ρ') (h : DOk K H ρ c u) : DOk K H' ρ' c u := by
  cases c with
  | dk kvs => cases u with
    | dK kvv => exact RKV.mono e h
    | _ => exact h.elim
  | dt kvs => cases u with
    | dT kvv => exact RKV.mono e h
    | _ => exact h.elim
  | _ => cases u <;> exact h.elim
theorem DOk.isD {K H ρ c u} (h : DOk K H ρ c u) : c.isD = true ∧ ((∃ kvv, u = .dK kvv) ∨ ∃ kvv, u = .dT kvv) := by
  cases c with
  | dk kvs => cases u with
    | dK kvv => exact ⟨rfl, .inl ⟨_, rfl⟩⟩
    | _ => exact h.elim
  | dt kvs => cases u with
    | dT kvv => exact ⟨rfl, .inr ⟨_, rfl⟩⟩
    | _ => exact h.elim
  | _ => cases u <;> exact h.elim
theorem CellOk.dict {K H ρ a} {c : Cell} (hd : c.isD = true) (h : CellOk K H ρ a c) : ∃ u, H a = some u ∧ DOk K H ρ c u := by
  cases c with
  | dk kvs => obtain ⟨kvv, h1, h2, h3⟩ := h; exact ⟨_, h1, RKV.of h2 h3⟩
  | dt kvs => obtain ⟨kvv, h1, h2, h3⟩ := h; exact ⟨_, h1, RKV.of h2 h3⟩
  | _ => cases hd
end Q2
set_option maxHeartbeats 2000000
namespace L2
open PySem PySem.Spec PyProof.Rows
/-! ### dict comprehensions, in the layer's way -/
section
variable {X : Cx}
end
end L2
set_option maxHeartbeats 2000000
namespace Q2
open PySem L2
/-! ### keys -/
/-! ### what a dict holds at a key -/
section
variable {X : Cx} {o i e : Expr} {md my m : Ev} {pos pos' : Pos} {k : Nat}
/-! ### d[k] = v -/
/-! ### {}, {k: v, ..} -/
end
end Q2
set_option maxHeartbeats 2000000
namespace Q2
open PySem L2
/-! ### {k: v for ..} -/
section
variable {X : Cx} {kx vx tgE iter : Expr} {ifs : List Expr} {scope : Scope} {pos : Pos} {it : EvI} {tg : Tg} {tt : EvT} {tk tv : Ev} {k : Nat}
end
end Q2
set_option maxHeartbeats 2000000
namespace L2
open PySem PySem.Spec PyProof.Rows
/-! ### x in a list or tuple of any data -/
open Classical in
/-- is it like d, by what it reads as -/
noncomputable def likeB (h : Heap) (d : PyData) (y : Value) : Bool := if z : ∃ p, ∃ as, Reads h y p as ∧ p.canLay0 = true then PyData.eqv z.choose d else false
theorem likeB_of {h : Heap} {d p : PyData} {y : Value} {as : List Addr} (r : Reads h y p as) (hp : p.canLay0 = true) : likeB h d y = PyData.eqv p d := by
  have z : ∃ p, ∃ as, Reads h y p as ∧ p.canLay0 = true := ⟨p, as, r, hp⟩
  unfold likeB
  rw [dif_pos z]
  obtain ⟨bs, r2, h2⟩ := z.choose_spec
  rw [SeqAt.Reads.unique _ _ _ _ _ hp r r2]
def rInD (K : PySem.W.Frag) (neg : Bool) : R2 := fun x y H Q => ∃ p xs ds d, y = .ref p ∧ (SqL K H p xs ∨ SqT K H p xs) ∧ DpAll K H xs ds ∧ Dp K H x d ∧ SeqAt.shaped d = true ∧ (∀ e ∈ ds, SeqAt.shaped e = true) ∧ Q (.bl (if neg then !(ds.any fun e => PyData.eqv e d) else ds.any fun e => PyData.eqv e d)) H
section
variable {X : Cx}
theorem likes {pins : List (Addr × Obj)} {σ : St} {H : Hp} {s : Shared} {A : Around} {v : Value} {d : PyData} {bs : List Addr} (I : Inv X pins σ H s) (hu : A.units + 64 < cLine) (rv : Reads s.heap v d bs) (sd : SeqAt.shaped d = true) :
    ∀ {xs : List V} {us : List Value} {ds : List PyData}, Vals xs us → DpAll X.K H xs ds → (∀ e ∈ ds, SeqAt.shaped e = true) → (∀ y ∈ us, SeqAt.EqAt A s y v (likeB s.heap d y)) ∧ us.any (likeB s.heap d) = ds.any fun e => PyData.eqv e d
  | _, _, _, .nil, h, _ => by
    cases h
    exact ⟨(fun y hy => absurd hy List.not_mem_nil), rfl⟩
  | _, _, _, .cons r t, h, hs => by
    cases h with
    | @cons _ _ p ps hp ht =>
      obtain ⟨as, ra⟩ := Dp.reads I p _ _ hp r
      have sp := hs p List.mem_cons_self
      have lp := SeqAt.canLay_of_shaped sp
      have eb := likeB_of (d := d) ra lp
      obtain ⟨i1, i2⟩ := likes I hu rv sd t ht fun e he => hs e (List.mem_cons_of_mem _ he)
      refine ⟨fun y hy => ?_, by rw [List.any_cons, List.any_cons, i2, eb]⟩
      rcases List.mem_cons.mp hy with rfl | hy
      · rw [eb]
        refine SeqAt.eqAt_reads p d A s _ _ as bs ra rv lp (SeqAt.canLay_of_shaped sd) ?_
        have := SeqAt.depth_of_shaped sd
        omega
      · exact i1 y hy
theorem op_inD {neg : Bool} (hu : X.A.in1.units + 64 < cLine) : OpR X (compareOp (if neg then .NotIn else .In)) (rInD X.K neg) := by
  intro pins s σ H x y v u Q I rx ry h
  obtain ⟨p, xs, ds, d, rfl, hq, ha, hd, sd, ss, q⟩ := h
  cases ry
  obtain ⟨bs, rv⟩ := Dp.reads I d x v hd rx
  rcases hq with hq | hq
  · obtain ⟨its, r, pl, hz⟩ := I.list hq
    obtain ⟨e1, e2⟩ := likes (A := X.A.in1) I hu rv sd r ha ss
    have e3 : its.toArray.any (likeB s.heap d) = ds.any fun e => PyData.eqv e d := by rw [← e2]; simp
    cases neg with
    | false => exact SeqAt.in_listAt (likeB s.heap d) pl.isList (fun w hw => e1 w (by simpa using hw)) ⟨.bl _, H, I, rfl, by rw [e3]; exact q⟩
    | true => exact SeqAt.notIn_listAt (likeB s.heap d) pl.isList (fun w hw => e1 w (by simpa using hw)) ⟨.bl _, H, I, rfl, by rw [e3]; exact q⟩
  · obtain ⟨its, r, pl, hz⟩ := I.tuple hq
    obtain ⟨e1, e2⟩ := likes (A := X.A.in1) I hu rv sd r ha ss
    have e3 : its.toArray.any (likeB s.heap d) = ds.any fun e => PyData.eqv e d := by rw [← e2]; simp
    cases neg with
    | false => exact SeqAt.in_tupleAt (likeB s.heap d) pl (fun w hw => e1 w (by simpa using hw)) ⟨.bl _, H, I, rfl, by rw [e3]; exact q⟩
    | true => exact SeqAt.notIn_tupleAt (likeB s.heap d) pl (fun w hw => e1 w (by simpa using hw)) ⟨.bl _, H, I, rfl, by rw [e3]; exact q⟩
end
end L2
namespace Q2
open PySem L2
def oInD (neg : Bool) : Op2 := fun x y S => (itemsD y S).bind fun ds => (mapO (toP S 8) ds).bind fun ps => (toP S 8 x).bind fun d => if SeqAt.shaped d = true ∧ (ps.all fun e => SeqAt.shaped e) = true then some (.bl (if neg then !(ps.any fun e => PyData.eqv e d) else ps.any fun e => PyData.eqv e d), S) else none
theorem s_inD {K : PySem.W.Frag} {neg : Bool} : OpS K (rInD K neg) (oInD neg) := by
  intro x y v u H ρ S d S' Q rx ry ok e k
  obtain ⟨ds, e1, e⟩ := Option.bind_eq_some_iff.mp e
  obtain ⟨ps, e2, e⟩ := Option.bind_eq_some_iff.mp e
  obtain ⟨p, e3, e⟩ := Option.bind_eq_some_iff.mp e
  obtain ⟨a, vs, rfl, rl, h⟩ := items_ok ok ry e1
  by_cases hc : SeqAt.shaped p = true ∧ (ps.all fun e => SeqAt.shaped e) = true
  · have e := (if_pos hc).symm.trans e
    cases e
    exact ⟨a, vs, ps, p, rfl, h.imp id SqT.any, mapO_dp (fun d p v => toP_dp ok 8) e2 rl, toP_dp ok 8 e3 rx, hc.1, fun e he => List.all_eq_true.mp hc.2 e he, k _ H ρ .refl ok (.bl _)⟩
  · have e := (if_neg hc).symm.trans e
    cases e
section
variable {X : Cx} {a b : Expr} {ma mb : Ev} {pos : Pos} {k : Nat}
theorem hu_in {A : Around} (hr : Room k A) : A.in1.units + 64 < cLine := by have := hr.un; show A.units + 1 + 64 < _; omega
theorem q_tnotinD (hr : Room k X.A) (ha : QE X a ma) (hb : QE X b mb) (hm : behindInMarks .NotIn b = false := by rfl) : QT X (.Compare a [.NotIn] [b] pos) (evB (ev2 (oInD true) ma mb)) := q_tcmp (op_inD (neg := true) (hu_in hr)) s_inD ha hb hm
end
end Q2
set_option maxHeartbeats 1000000
namespace L2
open PySem PySem.Spec PyProof.Rows
/-! ### min of three numbers -/
section
variable {prog : Program} {w : World} {A : Around} {E : Value → Shared → Prop} {s : Shared} {Q : Value → Shared → Prop}
end
section
variable {X : Cx}
end
end L2
namespace Q2
open PySem L2
section
variable {X : Cx} {e f2 f3 : Expr} {mr : EvA} {p pos : Pos}
end
end Q2
set_option maxHeartbeats 1000000
namespace Q2
open PySem PySem.Spec L2
/-! ### a comprehension within another's element -/
/-! ### zip of two lists -/
section
variable {X : Cx} {a b c e f2 : Expr} {m : Ev} {pos p : Pos} {mr : EvA}
end
end Q2
set_option maxHeartbeats 4000000
namespace Us
open PySem PySem.W PyProof.Rows L2 Ss
section
variable {X : Cx} {pins : List (Addr × Obj)} {σ : L2.St} {H : Hp} {s : Shared} {A : Around} {E : Value → Shared → Prop}
end
end Us
set_option maxHeartbeats 1000000
namespace Q2
open PySem L2 Ss
/-! ### sorted(set(..)) of pairs over data trees -/
def dd : List (Int × Int) → List (Int × Int)
  | [] => []
  | p :: ps => if p ∈ dd ps then dd ps else p :: dd ps
end Q2
set_option maxHeartbeats 1000000
namespace Q2
open PySem L2 PyProof.Rows
section
variable {X : Cx} {a b c d : Expr} {ma mb mc md : Ev} {ta tb tc td : TE} {pos : Pos}
/-! ### three links in a chain of compares -/
/-! ### ints, or tuples of ints: less -/
end
end Q2
set_option maxHeartbeats 1000000
namespace Q2
open PySem L2 PyProof.Rows
section
variable {X : Cx} {a b e o : Expr} {ma mb mo : Ev} {pos apos cpos : Pos} {mr : EvA}
/-! ### is None, is not None -/
def nonD : D → Bool
  | .non => true
  | _ => false
def oIsN (neg : Bool) : Op2 := fun x y S => match y with
  | .non => some (.bl (if neg = true then !nonD x else nonD x), S)
  | _ => none
theorem non_rel {K : PySem.W.Frag} {H : Hp} {ρ : List Addr} {x : D} {v : V} (r : Rel K H ρ x v) : decide (v = .non) = nonD x := by
  cases r <;> first | rfl | exact decide_eq_false (fun z => nomatch z)
theorem s_isN {K : PySem.W.Frag} : OpS K (fun x y H Q => y = .non ∧ Q (.bl (decide (x = .non))) H) (oIsN false) := by
  intro x y v u H ρ S d S' Q rx ry ok e k
  cases ry with
  | non =>
    cases e
    refine ⟨rfl, ?_⟩
    rw [non_rel rx]
    exact k _ H ρ .refl ok (.bl _)
  | _ => cases e
theorem q_tisN (ha : QE X a ma) (hb : QE X b mb) : QT X (.Compare a [.Is] [b] pos) (evB (ev2 (oIsN false) ma mb)) := q_tcmp op_isN s_isN ha hb
/-! ### xs.pop(i) -/
theorem RelL.erase {K H ρ} : ∀ {ds : List D} {vs : List V} (i : Nat), RelL K H ρ ds vs → RelL K H ρ (ds.eraseIdx i) (vs.eraseIdx i)
  | _, _, _, .nil => .nil
  | _, _, 0, .cons _ r => r
  | _, _, i + 1, .cons r0 r => .cons r0 (RelL.erase i r)
end
end Q2
set_option maxHeartbeats 1000000
namespace L2
open PySem PySem.Spec PyProof.Rows
/-! ### the least and the greatest of a tuple of numbers -/
section
variable {prog : Program} {w : World} {A : Around} {E : Value → Shared → Prop} {s : Shared} {l : Addr} {xs : Array (Int × Tok)} {Q : Value → Shared → Prop}
theorem kept2 {h' : Heap} {it : Obj} (hk : ∀ b o, b ∉ [s.heap.objs.size] → (s.heap.push it).get? b = some o → h'.get? b = some o) : ∀ b o, s.heap.get? b = some o → h'.get? b = some o := fun b o e =>
  hk b o (fun z => by
    have lt := Heap.lt_size e
    rw [List.mem_singleton.mp z] at lt
    exact Nat.lt_irrefl _ lt) (Heap.get?_push_of_some _ e)
end
section
variable {X : Cx}
end
end L2
namespace Q2
open PySem L2
section
variable {X : Cx} {e : Expr} {mr : EvA} {p pos : Pos}
end
end Q2
namespace Q2
open PySem L2
/-! ### numbers and texts of the module; what is never reached -/
def GInt (mg : Str → Option Value) (x : Str) (i : Int) : Prop := ∃ t, mg x = some (.int i t)
def GStr (mg : Str → Option Value) (x : Str) (i : Str) : Prop := ∃ t, mg x = some (.str i t)
theorem q_gint {X : Cx} {x : Str} {i : Int} {pos : Pos} (hm : GInt X.mg x i) (hg : Gl X x := by rfl) (hd : (x == ("__debug__" : Str)) = false := by decide) : QE X (.Name x pos) (evC (.int i)) := by
  obtain ⟨t, h⟩ := hm
  exact ⟨PE.imp (pe_glob hg h (v := .int i) ⟨t, rfl⟩ hd) (t_C fun _ _ => .int i)⟩
theorem q_gstr {X : Cx} {x : Str} {i : Str} {pos : Pos} (hm : GStr X.mg x i) (hg : Gl X x := by rfl) (hd : (x == ("__debug__" : Str)) = false := by decide) : QE X (.Name x pos) (evC (.str i)) := by
  obtain ⟨t, h⟩ := hm
  exact ⟨PE.imp (pe_glob hg h (v := .str i) ⟨t, rfl⟩ hd) (t_C fun _ _ => .str i)⟩
def sDead : Sv := fun _ _ => none
theorem qs_dead {X : Cx} {st : Stmt} : QS X st sDead := ⟨fun _ _ _ _ _ _ h => by obtain ⟨_, _, _, _, _, _, e, _⟩ := h; cases e⟩
end Q2
set_option maxHeartbeats 2000000
namespace PySem
open Sem (wp)
open AutoSeq1 (wpAny_loadPart')
section
variable {prog : Program} {w : World} {A : Around} {E : Value → Shared → Prop}
end
end PySem
set_option maxHeartbeats 2000000
namespace L2
open PySem PySem.Spec PyProof.Rows
section
variable {X : Cx} {a : Expr} {ta : TA} {p p2 pos pos2 : Pos}
end
end L2
namespace Q2
open PySem L2
section
variable {X : Cx} {a : Expr} {mr : EvA} {p p2 pos pos2 : Pos}
end
end Q2
set_option maxHeartbeats 2000000
namespace Q2
open PySem L2
/-! ### a list comprehension with two clauses -/
section
variable {X : Cx} {pos : Pos}
end
end Q2
set_option maxHeartbeats 2000000
namespace Q2
open PySem L2
/-! ### xs.index(n) of whole numbers -/
section
variable {X : Cx} {o e : Expr} {mo : Ev} {mr : EvA} {apos cpos : Pos}
end
end Q2
set_option maxHeartbeats 2000000
namespace PySem
open Sem (wp)
open PySem.Spec PyProof.Rows
section
variable {prog : Program} {w : World} {A : Around} {R : Result → Shared → Prop} {I : Addr} {fp wr : List Addr} {n : Nat} {P : Nat → Value → Prop} {St : Nat → Heap → Prop}
end
section
variable {prog : Program} {w : World} {A : Around} {E : Value → Shared → Prop} {s : Shared} {l : Addr} {its : List Value} {ns : List Int} {Q : Value → Shared → Prop}
end
end PySem
namespace L2
open PySem PySem.Spec PyProof.Rows
section
variable {X : Cx} {e b : Expr} {ta : TA} {tb : TE} {p pos kp : Pos}
end
end L2
namespace Q2
open PySem L2
section
variable {X : Cx} {e b : Expr} {mr : EvA} {md : Ev} {p pos kp : Pos}
end
end Q2
set_option maxHeartbeats 2000000
namespace L2
open PySem PySem.Spec PyProof.Rows
/-- how many unlike numbers there are -/
def unlike (ns : List Int) : Nat := (firstMet (fun i => ns.getD i 0) ns.length).length
section
variable {X : Cx} {e : Expr} {ta : TA} {p p2 pos pos2 : Pos}
end
end L2
namespace Q2
open PySem L2
section
variable {X : Cx} {e : Expr} {mr : EvA} {p p2 pos pos2 : Pos}
end
end Q2
set_option maxHeartbeats 2000000
namespace Q2
open PySem L2
/-! ### the signs of a text, one by one -/
def signs (z : Str) : List D := z.cps.toList.map fun c => D.str ⟨#[c]⟩
def evSigns (m : Ev) : EvI := fun σ S => (m σ S).bind fun p => match p.1 with
  | .str z => some (signs z, p.2, fun _ => True)
  | _ => none
theorem it_signs {K : PySem.W.Frag} {H1 : Hp} {ρ1 : List Addr} {z : Str} {G : Store → Prop} : ItOk K (Its z) H1 ρ1 (signs z) G := by
  refine ⟨fun i H ρ S d x ok g hd => ?_, fun i H ρ S x ok g hi => ?_⟩
  · unfold signs at hd
    rw [List.getElem?_map] at hd
    obtain ⟨c, hc, rfl⟩ := Option.map_eq_some_iff.mp hd
    have hc : z.cps[i]? = some c := by rw [← Array.getElem?_toList]; exact hc
    refine ⟨(Array.getElem?_eq_some_iff.mp hc).1, fun w H' y => ?_⟩
    obtain ⟨rfl, c', h, rfl⟩ := y
    rw [hc] at h
    cases h
    exact ⟨.refl, ok, .str _⟩
  · have : (signs z).length = z.cps.size := by unfold signs; rw [List.length_map, Array.length_toList]
    show z.cps.size ≤ i
    omega
section
variable {X : Cx} {e a b : Expr} {m ma mb : Ev} {mr : EvA} {p pos apos : Pos}
theorem q_isign {tg : Expr} (he : QE X e m) : QI X tg e (evSigns m) := ⟨PI.imp (pi_str he.ok) fun σ H R h => by
  obtain ⟨σd, S, ρ, items, S1, G, so, ok, e, k⟩ := h
  obtain ⟨⟨d, S2⟩, e1, e⟩ := Option.bind_eq_some_iff.mp e
  cases d with
  | str z =>
    cases e
    refine ⟨σd, S, ρ, _, _, so, ok, e1, fun v H1 ρ1 x1 ok1 r1 => ?_⟩
    cases r1
    exact ⟨z, rfl, k _ H1 ρ1 x1 ok1 it_signs⟩
  | _ => cases e⟩
/-! ### a sign in a text -/
def oInC : Op2 := fun x y S => match x, y with
  | .str a, .str z => (match a.cps.toList with
    | [c] => some (.bl (decide (c ∈ z.cps.toList)), S)
    | _ => none)
  | _, _ => none
theorem one_sign {x : Str} {c : Nat} (h : x.cps.toList = [c]) : x = ⟨#[c]⟩ := by
  obtain ⟨xs⟩ := x
  have : xs = #[c] := Array.ext' h
  rw [this]
theorem s_inC {K : PySem.W.Frag} : OpS K (fun x y H Q => ∃ (c : Nat) (z : Str), x = .str ⟨#[c]⟩ ∧ y = .str z ∧ Q (.bl (decide (c ∈ z.cps.toList))) H) oInC := by
  intro x y v u H ρ S d S' Q rx ry ok e k
  cases rx with
  | str a =>
    cases ry with
    | str z =>
      have e : (match a.cps.toList with
        | [c] => some (D.bl (decide (c ∈ z.cps.toList)), S)
        | _ => none) = some (d, S') := e
      split at e
      · rename_i c hc
        cases e
        exact ⟨c, z, by rw [one_sign hc], rfl, k _ H ρ .refl ok (.bl _)⟩
      · cases e
    | _ => cases e
  | _ => cases e
theorem q_inC (ha : QE X a ma) (hb : QE X b mb) (hm : behindInMarks .In b = false := by rfl) : QE X (.Compare a [.In] [b] pos) (ev2 oInC ma mb) := q_cmp op_in_sign s_inC ha hb hm
/-! ### methods of texts with one argument -/
theorem t_m1 {K : PySem.W.Frag} {r : V → List V → Hp → VK → Prop} {o : Op2} (hs : OpS K (fun x y H Q => r x [y] H Q) o) (hx : ∀ x y S q, o x y S = some q → ∃ a, x = D.str a) : ∀ (σ : L2.St) (H : Hp) (Q : VK), T K (ev2 o ma mb) σ H Q → tM1 r (T K ma) (T K mb) σ H Q := fun σ H Q h => by
  obtain ⟨σd, S, ρ, d, S', so, ok, e, k⟩ := h
  obtain ⟨⟨x, S1⟩, e1, e⟩ := Option.bind_eq_some_iff.mp e
  obtain ⟨⟨y, S2⟩, e2, e⟩ := Option.bind_eq_some_iff.mp e
  refine ⟨σd, S, ρ, x, S1, so, ok, e1, fun v H1 ρ1 x1 ok1 r1 => ⟨?_, σd, S1, ρ1, y, S2, so.mono x1, ok1, e2, fun u H2 ρ2 x2 ok2 r2 => ?_⟩⟩
  · obtain ⟨a, rfl⟩ := hx _ _ _ _ e
    cases r1
    exact ⟨a, rfl⟩
  · exact hs x y v u H2 ρ2 S2 d S' Q (r1.mono x2) r2 ok2 e fun v' H' ρ' x3 ok3 r3 => k v' H' ρ' (x1.trans (x2.trans x3)) ok3 r3
def oSplit : Op2 := fun x y S => match x, y with
  | .str a, .str b => if (b.length == 0) = false ∧ a.length + 2 ≤ 1000000 then some (.loc S.length, S ++ [.lst ((Txt.split a b).map D.str)]) else none
  | _, _ => none
theorem RelL.strs {K : PySem.W.Frag} {H : Hp} {ρ : List Addr} : ∀ ys : List Str, RelL K H ρ (ys.map D.str) (ys.map V.str)
  | [] => .nil
  | y :: ys => .cons (.str y) (RelL.strs ys)
theorem s_split {K : PySem.W.Frag} : OpS K (fun x y H Q => ∃ a b, x = .str a ∧ [y] = [.str b] ∧ (b.length == 0) = false ∧ a.length + 2 ≤ sizeLine ∧ rNewStrs (Txt.split a b) H Q) oSplit := by
  intro x y v u H ρ S d S' Q rx ry ok e k
  cases rx with
  | str a =>
    cases ry with
    | str b =>
      by_cases hc : (b.length == 0) = false ∧ a.length + 2 ≤ 1000000
      · have e := (if_pos hc).symm.trans e
        cases e
        refine ⟨a, b, rfl, rfl, hc.1, Nat.le_trans hc.2 (by decide), fun p hp => ?_⟩
        obtain ⟨x1, x2, x3⟩ := ok.lastL hp (RelL.strs (Txt.split a b))
        exact k _ _ _ x1 x2 x3
      · have e := (if_neg hc).symm.trans e
        cases e
    | _ => cases e
  | _ => cases e
theorem oSplit_str : ∀ x y S q, oSplit x y S = some q → ∃ a, x = D.str a := by
  intro x y S q e
  cases x with
  | str a => exact ⟨a, rfl⟩
  | _ => cases e
theorem q_split (ha : QE X a ma) (hb : QE X b mb) (hs : starEach [b] X.env = [(false, eval b X.env)] := by rfl) (hbase : attributeBase a "split" X.env (eval a X.env) = eval a X.env := by rfl) (hline : (apos.endLine == pos.line) = true := by rfl) :
    QE X (.Call (.Attribute a "split" apos) [b] [] pos) (ev2 oSplit ma mb) := ⟨PE.imp (pe_split ha.ok hb.ok hs hbase hline) (t_m1 s_split oSplit_str)⟩
def strs? : List D → Option (List Str)
  | [] => some []
  | .str y :: ds => (strs? ds).map (y :: ·)
  | _ :: _ => none
theorem strs?_some : ∀ {ds : List D} {ys : List Str}, strs? ds = some ys → ds = ys.map D.str
  | [], ys, e => by cases e; rfl
  | d :: ds, ys, e => by
    cases d with
    | str y =>
      obtain ⟨zs, e1, e⟩ := Option.map_eq_some_iff.mp (show (strs? ds).map (y :: ·) = some ys from e)
      subst e
      rw [strs?_some e1]; rfl
    | _ => cases e
theorem strs?_of : ∀ ys : List Str, strs? (ys.map D.str) = some ys
  | [] => rfl
  | y :: ys => by
    show (strs? (ys.map D.str)).map (y :: ·) = _
    rw [strs?_of ys]; rfl
theorem RelL.textsInv {K : PySem.W.Frag} {H : Hp} {ρ : List Addr} : ∀ {ys : List Str} {vs : List V}, RelL K H ρ (ys.map D.str) vs → vs = ys.map V.str
  | [], _, h => by cases h; rfl
  | y :: ys, _, h => by
    cases h with
    | cons r t =>
      cases r
      rw [RelL.textsInv t]; rfl
def oJoin : Op2 := fun x y S => match x with
  | .str a => (itemsD y S).bind fun ds => (strs? ds).bind fun ys => if (ys.map (·.length)).sum + ys.length * a.length ≤ 1000000 then some (.str (Txt.join a ys), S) else none
  | _ => none
theorem s_join {K : PySem.W.Frag} : OpS K (fun x y H Q => ∃ a p, ∃ ys : List Str, x = .str a ∧ [y] = [.ref p] ∧ (SqL K H p (ys.map V.str) ∨ L2.SqT K H p (ys.map V.str)) ∧ (ys.map (·.length)).sum + ys.length * a.length ≤ 16777216 ∧ Q (.str (Txt.join a ys)) H) oJoin := by
  intro x y v u H ρ S d S' Q rx ry ok e k
  cases rx with
  | str a =>
    obtain ⟨ds, e1, e⟩ := Option.bind_eq_some_iff.mp (show (itemsD y S).bind _ = _ from e)
    obtain ⟨ys, e2, e⟩ := Option.bind_eq_some_iff.mp e
    by_cases hc : (ys.map (·.length)).sum + ys.length * a.length ≤ 1000000
    · have e := (if_pos hc).symm.trans e
      cases e
      obtain ⟨p, vs, rfl, rl, h⟩ := items_ok ok ry e1
      rw [strs?_some e2] at rl
      have := RelL.textsInv rl
      subst this
      exact ⟨a, p, ys, rfl, rfl, h.imp id SqT.any, Nat.le_trans hc (by decide), k _ H ρ .refl ok (.str _)⟩
    · have e := (if_neg hc).symm.trans e
      cases e
  | _ => cases e
theorem oJoin_str : ∀ x y S q, oJoin x y S = some q → ∃ a, x = D.str a := by
  intro x y S q e
  cases x with
  | str a => exact ⟨a, rfl⟩
  | _ => cases e
theorem q_join (ha : QE X a ma) (hb : QE X b mb) (hs : starEach [b] X.env = [(false, eval b X.env)] := by rfl) (hbase : attributeBase a "join" X.env (eval a X.env) = eval a X.env := by rfl) (hline : (apos.endLine == pos.line) = true := by rfl) :
    QE X (.Call (.Attribute a "join" apos) [b] [] pos) (ev2 oJoin ma mb) := ⟨PE.imp (pe_join ha.ok hb.ok hs hbase hline) (t_m1 s_join oJoin_str)⟩
/-! ### str(int), int(text) -/
def fStrI : Fn := fn1 fun d S => match d with
  | .int i => if i.natAbs.log2 < 1920 then some (.str (toString i), S) else none
  | _ => none
theorem s_strI {K : PySem.W.Frag} : CallS K (fun xs H Q => ∃ i, xs = [.int i] ∧ i.natAbs.log2 < 1920 ∧ Q (.str (toString i)) H) fStrI := by
  refine s_fn1 fun x v H ρ S d S' Q r ok e k => ?_
  cases r with
  | int i =>
    by_cases hc : i.natAbs.log2 < 1920
    · have e := (if_pos hc).symm.trans e
      cases e
      exact ⟨i, rfl, hc, k _ H ρ .refl ok (.str _)⟩
    · have e := (if_neg hc).symm.trans e
      cases e
  | _ => cases e
theorem q_strI (hm : X.mg "str" = none) (ha : QA X [e] mr) (hg : Gl X "str" := by rfl) (he : starEach [e] X.env = (false, eval e X.env) :: starEach [] X.env := by rfl) (hpl : (backTo pos (starEach [] X.env)).any (·.1) = false := by rfl) : QE X (.Call (.Name "str" p) [e] [] pos) (evF fStrI mr) :=
  q_callT call_str_int s_strI hm (by decide +kernel) ha hg (by decide) (by decide) he hpl
def fIntT : Fn := fn1 fun d S => match d with
  | .str a => (PySem.intText? a).bind fun n => if a.length ≤ 640 then some (.int n, S) else none
  | _ => none
theorem s_intT {K : PySem.W.Frag} : CallS K (fun xs H Q => ∃ a n, xs = [.str a] ∧ PySem.intText? a = some n ∧ a.length ≤ 640 ∧ Q (.int n) H) fIntT := by
  refine s_fn1 fun x v H ρ S d S' Q r ok e k => ?_
  cases r with
  | str a =>
    obtain ⟨n, e1, e⟩ := Option.bind_eq_some_iff.mp (show (PySem.intText? a).bind _ = _ from e)
    by_cases hc : a.length ≤ 640
    · have e := (if_pos hc).symm.trans e
      cases e
      exact ⟨a, n, rfl, e1, hc, k _ H ρ .refl ok (.int _)⟩
    · have e := (if_neg hc).symm.trans e
      cases e
  | _ => cases e
theorem q_intT (hm : X.mg "int" = none) (ha : QA X [e] mr) (hg : Gl X "int" := by rfl) (he : starEach [e] X.env = (false, eval e X.env) :: starEach [] X.env := by rfl) (hpl : (backTo pos (starEach [] X.env)).any (·.1) = false := by rfl) : QE X (.Call (.Name "int" p) [e] [] pos) (evF fIntT mr) :=
  q_callT call_int_str s_intT hm (by decide +kernel) ha hg (by decide) (by decide) he hpl
end
end Q2
set_option maxHeartbeats 2000000
namespace PySem
open PySem.SeqAt
open PySem.AutoSeq1 (wpAny_loadPart')
open PySem.MeetsSeq PySem.MeetsSeq2 PySem.MeetsSeq3
/-! ### pairs of whole numbers: no greater -/
def le2 (a b : Int × Int) : Bool := if a.1 = b.1 then decide (a.2 ≤ b.2) else decide (a.1 ≤ b.1)
theorem rc_le (A : Around) (s : Shared) (a : Int) (t : Tok) (c : Int) (u : Tok) (prog : Program) (w : World) (E : Value → Shared → Prop) (Q : Value → Shared → Prop) (h : Q (.bool (decide (a ≤ c))) s) : wpAny (model prog w) A (richCompare .LtE (.int a t) (.int c u)) Q E s :=
  (PyProof.Rows.le_int h : wpAny (model prog w) A (compareOp .LtE (.int a t) (.int c u)) Q E s)
theorem pair_le (p q : Addr) (a b : Int × Int) (t1 t2 u1 u2 : Tok) (n1 n2 : Nat) (d1 d2 : Option Addr) (z1 z2 : Array (Option Value)) : Meets (Builtin.«tuple.__le__» ⟨[.ref p, .ref q], []⟩)
    (fun _ R s => s.heap.get? p = some { cls := .type "tuple", dict := d1, data := .seq #[.int a.1 t1, .int a.2 t2] n1, slots := z1 } ∧ s.heap.get? q = some { cls := .type "tuple", dict := d2, data := .seq #[.int b.1 u1, .int b.2 u2] n2, slots := z2 } ∧ R (.ok (.ret (.bool (le2 a b)))) s) :=
  .of_wp fun prog w A R s h => by
    obtain ⟨hp, hq, h⟩ := h
    have f2 := AutoSeq1.sub_tuple_tuple
    obtain ⟨e1, w1, i1⟩ := HT.eqAt_int A.in1 s a.1 t1 b.1 u1
    obtain ⟨e2, w2, i2⟩ := HT.eqAt_int A.in1 s a.2 t2 b.2 u2
    wp_walk using wpAny_loadPart' hp, wpAny_loadPart' hq, wpAny_forIn_list _ (fun rest c s' => c.1 = none ∧ s' = s ∧ (rest = [(.int a.1 t1, .int b.1 u1), (.int a.2 t2, .int b.2 u2)] ∨ (a.1 = b.1 ∧ rest = [(.int a.2 t2, .int b.2 u2)]) ∨ (a.1 = b.1 ∧ a.2 = b.2 ∧ rest = []))) _
    case turn =>
      rintro ⟨x, y⟩ rest c s' ⟨hc, rfl, hr | ⟨h1, hr⟩ | ⟨_, _, hr⟩⟩
      · cases hr
        refine wpAny_bind (w1 prog w _ _ ?_)
        cases e1 with
        | true =>
          wp_walk
          exact ⟨rfl, rfl, .inr (.inl ⟨i1.mp rfl, rfl⟩)⟩
        | false =>
          have ne : a.1 ≠ b.1 := fun z => by cases i1.mpr z
          have cmp := rc_le A.in1 s' a.1 t1 b.1 u1 prog w
          unfold le2 at h
          rw [if_neg ne] at h
          wp_walk using cmp
          exact ⟨_, rfl, by simpa using h⟩
      · cases hr
        refine wpAny_bind (w2 prog w _ _ ?_)
        cases e2 with
        | true =>
          wp_walk
          exact ⟨rfl, rfl, .inr (.inr ⟨h1, i2.mp rfl, rfl⟩)⟩
        | false =>
          have cmp := rc_le A.in1 s' a.2 t2 b.2 u2 prog w
          unfold le2 at h
          rw [if_pos h1] at h
          wp_walk using cmp
          exact ⟨_, rfl, by simpa using h⟩
      · cases hr
    case fin =>
      rintro ⟨c1, c2⟩ s' ⟨hc, rfl, hr | ⟨h1, hr⟩ | ⟨h1, h2, _⟩⟩
      · cases hr
      · cases hr
      · have hc : c1 = none := hc
        subst hc
        unfold le2 at h
        rw [if_pos h1, decide_eq_true (by omega)] at h
        wp_walk
        exact ⟨_, rfl, by simpa [Builtin.Tuple.tupleCompareSizes] using h⟩
    case h => exact ⟨rfl, rfl, .inl rfl⟩
end PySem
namespace L2
open PySem PySem.Spec PyProof.Rows
section
variable {X : Cx}
def rLe2 (K : PySem.W.Frag) : R2 := fun x y H Q => ∃ p q, ∃ a b : Int × Int, x = .ref p ∧ y = .ref q ∧ SqT K H p [.int a.1, .int a.2] ∧ SqT K H q [.int b.1, .int b.2] ∧ Q (.bl (le2 a b)) H
theorem op_le2 (hu : X.A.units < cLine) : OpR X (compareOp .LtE) (rLe2 X.K) := by
  intro pins s σ H x y v u Q I rx ry h
  obtain ⟨p, q, a, b, rfl, rfl, hp, hq, k⟩ := h
  cases rx
  cases ry
  obtain ⟨its, r1, p1, _⟩ := I.tuple hp
  obtain ⟨its2, r2, p2, _⟩ := I.tuple hq
  cases r1 with
  | cons c1 r1 =>
  cases r1 with
  | cons c2 r1 =>
  cases r1
  cases r2 with
  | cons c3 r2 =>
  cases r2 with
  | cons c4 r2 =>
  cases r2
  obtain ⟨t1, rfl⟩ := c1
  obtain ⟨t2, rfl⟩ := c2
  obtain ⟨u1, rfl⟩ := c3
  obtain ⟨u2, rfl⟩ := c4
  obtain ⟨⟨cls, dd, data, sl⟩, ho, hc, n, hd⟩ := id p1
  obtain ⟨⟨cls2, dd2, data2, sl2⟩, ho2, hc2, n2, hd2⟩ := id p2
  simp only at hc hd hc2 hd2
  subst hc hd hc2 hd2
  exact richCompare_meets_room (op := .LtE) ⟨_, ho, rfl⟩ ⟨_, ho2, rfl⟩ PySem.F.slot_tuple_le PySem.F.entry_tuple_le (PySem.F.args_tuple_le_2 _ _) (pair_le _ _ a b t1 t2 u1 u2 n n2 dd dd2 sl sl2)
    ⟨ho, ho2, show Value.bool (le2 a b) ≠ Value.notImplemented ∧ _ from ⟨(fun x => nomatch x), ⟨.bl (le2 a b), H, I, rfl, k⟩⟩⟩ hu
end
end L2
set_option maxHeartbeats 2000000
namespace L2
open PySem PySem.Spec PyProof.Rows
section
variable {X : Cx} {a b : Expr} {ta tb : TE} {w : Str} {k : Nat} {p1 p2 p3 pos : Pos}
/-! ### two whole numbers and what stands between, as one text -/
def numsText (w : Str) (i j : Int) : Str := Str.empty ++ (toString i : Str) ++ w ++ (toString j : Str)
def tNums (w : Str) (ta tb : TE) : TE := fun σ H Q => ta σ H fun x H1 => ∃ i : Int, x = .int i ∧ i.natAbs.log2 < 1920 ∧ (Str.empty ++ (toString i : Str) ++ w).length ≤ sizeLine ∧ tb σ H1 fun y H2 => ∃ j : Int, y = .int j ∧ j.natAbs.log2 < 1920 ∧
  (numsText w i j).length ≤ sizeLine ∧ Q (.str (numsText w i j)) H2
theorem pe_nums (ha : PE X a ta) (hb : PE X b tb) : PE X (.JoinedStr [.FormattedValue a (-1) none p1, .Constant (.str w) k p2, .FormattedValue b (-1) none p3] pos) (tNums w ta tb) := by
  intro pins s σ H Q I h
  refine JoinedStr_many (joinParts_cons (FormattedValue_plain (thn (ha pins s σ H _ I h) fun v s1 ⟨x, H1, I1, r1, q1⟩ => ?_)))
  obtain ⟨i, rfl, hi, hw, q1⟩ := q1
  obtain ⟨t, rfl⟩ := r1
  have I1' : Inv X pins σ H1 { s1 with toks := s1.toks + 1 + 1 } := I1.tok _
  have li : (Str.empty ++ (toString i : Str)).length ≤ sizeLine := by
    rw [strLen_append]
    have := int_text_fits hi
    have e : Str.empty.length = 0 := rfl
    omega
  refine wpAny_formatField_int hi ⟨li, ?_⟩
  refine joinParts_cons (thn (pe_str (X := X) (j := k) (pos := p2) pins _ σ H1 _ I1' (show tC (.str w) σ H1 fun y H2 => y = .str w ∧ H2 = H1 from ⟨rfl, rfl⟩)) fun v s2 ⟨y, H2, I2, r2, q2⟩ => ?_)
  obtain ⟨rfl, rfl⟩ := q2
  obtain ⟨t2, rfl⟩ := r2
  refine ⟨?_, joinParts_cons (FormattedValue_plain (thn (hb pins s2 σ _ _ I2 q1) fun v s3 ⟨z, H3, I3, r3, q3⟩ => ?_))⟩
  · exact hw
  · obtain ⟨j, rfl, hj, hl, q3⟩ := q3
    obtain ⟨t3, rfl⟩ := r3
    have I3' : Inv X pins σ H3 { s3 with toks := s3.toks + 1 + 1 } := I3.tok _
    refine wpAny_formatField_int hj ⟨hl, joinParts_nil ?_ hl⟩
    exact ⟨.str (numsText w i j), H3, I3'.tok _, ⟨_, rfl⟩, q3⟩
end
end L2
namespace Q2
open PySem L2
/-! ### pairs: no greater -/
def oLe2 : Op2 := fun x y S => match x, y with
  | .tup [.int a, .int b], .tup [.int c, .int d] => some (.bl (le2 (a, b) (c, d)), S)
  | _, _ => none
theorem s_le2 {K : PySem.W.Frag} : OpS K (rLe2 K) oLe2 := by
  intro x y v u H ρ S d S' Q rx ry ok e k
  unfold oLe2 at e
  split at e
  · rename_i a b c d'
    cases e
    cases rx with
    | @tup p1 ds vs hq rl =>
      cases ry with
      | @tup p2 es us hq2 rl2 =>
        cases rl with
        | cons r1 rl => cases rl with
          | cons r2 rl =>
            cases rl
            cases r1; cases r2
            cases rl2 with
            | cons r3 rl2 => cases rl2 with
              | cons r4 rl2 =>
                cases rl2
                cases r3; cases r4
                exact ⟨p1, p2, (a, b), (c, d'), rfl, rfl, hq.any, hq2.any, k _ H ρ .refl ok (.bl _)⟩
  · cases e
section
variable {X : Cx} {a b : Expr} {ma mb : Ev} {w : Str} {k : Nat} {p1 p2 p3 pos : Pos}
theorem q_tle2 {k : Nat} (hr : Room k X.A) (ha : QE X a ma) (hb : QE X b mb) : QT X (.Compare a [.LtE] [b] pos) (evB (ev2 oLe2 ma mb)) := q_tcmp (op_le2 (by have := hr.un; omega)) s_le2 ha hb
/-! ### texts of two numbers -/
def evNums (w : Str) (ma mb : Ev) : Ev := fun σ S => (ma σ S).bind fun p => (mb σ p.2).bind fun q => match p.1, q.1 with
  | .int i, .int j => if i.natAbs.log2 < 1920 ∧ j.natAbs.log2 < 1920 ∧ (Str.empty ++ (toString i : Str) ++ w).length ≤ 16777216 ∧ (numsText w i j).length ≤ 16777216 then some (.str (numsText w i j), q.2) else none
  | _, _ => none
theorem q_nums (ha : QE X a ma) (hb : QE X b mb) : QE X (.JoinedStr [.FormattedValue a (-1) none p1, .Constant (.str w) k p2, .FormattedValue b (-1) none p3] pos) (evNums w ma mb) := ⟨PE.imp (pe_nums ha.ok hb.ok) fun σ H Q h => by
  obtain ⟨σd, S, ρ, d, S', so, ok, e, k⟩ := h
  obtain ⟨⟨x, S1⟩, e1, e⟩ := Option.bind_eq_some_iff.mp e
  obtain ⟨⟨y, S2⟩, e2, e⟩ := Option.bind_eq_some_iff.mp e
  cases x with
  | int i =>
    cases y with
    | int j =>
      by_cases hc : i.natAbs.log2 < 1920 ∧ j.natAbs.log2 < 1920 ∧ (Str.empty ++ (toString i : Str) ++ w).length ≤ 16777216 ∧ (numsText w i j).length ≤ 16777216
      · have e := (if_pos hc).symm.trans e
        cases e
        refine ⟨σd, S, ρ, _, S1, so, ok, e1, fun v H1 ρ1 x1 ok1 r1 => ?_⟩
        cases r1
        refine ⟨i, rfl, hc.1, hc.2.2.1, σd, S1, ρ1, _, _, so.mono x1, ok1, e2, fun u H2 ρ2 x2 ok2 r2 => ?_⟩
        cases r2
        exact ⟨j, rfl, hc.2.1, hc.2.2.2, k _ H2 ρ2 (x1.trans x2) ok2 (.str _)⟩
      · have e := (if_neg hc).symm.trans e
        cases e
    | _ => cases e
  | _ => cases e⟩
end
end Q2
set_option maxHeartbeats 1000000
namespace Pf
open PySem L2 Q2
theorem fn1_some {o : Op1} {ds S r} (e : fn1 o ds S = some r) : ∃ x, ds = [x] ∧ o x S = some r := by
  match ds, e with
  | [x], e => exact ⟨x, rfl, e⟩
theorem fn1_len {o : Op1} : ∀ ds S r, fn1 o ds S = some r → ds.length = 1 := fun ds S r e => by
  obtain ⟨x, rfl, _⟩ := fn1_some e; rfl
theorem sSeq_nx {s1 s2 : Sv} {σ σ' S S'} (h : s1 σ S = some (.nx σ' S')) : sSeq s1 s2 σ S = s2 σ' S' := by
  unfold sSeq; rw [h]; rfl
theorem sSeq_rt {s1 s2 : Sv} {σ S S' d} (h : s1 σ S = some (.rt d S')) : sSeq s1 s2 σ S = some (.rt d S') := by
  unfold sSeq; rw [h]; rfl
/-! ### numbers -/
/-! ### divisor -/
/-! ### lowest -/
/-! ### the law's own fraction -/
/-! ### polys -/
def tl (ns : List Int) : Nat → Nat
  | 0 => 0
  | e + 1 => if ns[e]? = some 0 then tl ns e else e + 1
theorem tl_le (ns : List Int) : ∀ e, tl ns e ≤ e
  | 0 => Nat.le_refl _
  | e + 1 => by unfold tl; split; exact Nat.le_succ_of_le (tl_le ns e); exact Nat.le_refl _
def trim (ns : List Int) : List Int := ns.take (tl ns ns.length)
end Pf
set_option maxHeartbeats 1000000
namespace Pf
open PySem L2 Q2
abbrev zs (ns : List Int) : List D := ns.map D.int
theorem clL_ints : ∀ ns : List Int, D.clL (zs ns) = true
  | [] => rfl
  | n :: ns => by show (true && D.clL (zs ns)) = true; rw [clL_ints ns]; rfl
theorem cl_ints (ns : List Int) : (D.tup (zs ns)).cl = true := by unfold D.cl; exact clL_ints ns
theorem get_last {S U : Store} {c : Cell} : (S ++ c :: U)[S.length]? = some c := by
  rw [List.getElem?_append_right (Nat.le_refl _), Nat.sub_self]; rfl
theorem set_last {S U : Store} {c c' : Cell} : (S ++ c :: U).set S.length c' = S ++ c' :: U := by
  rw [List.set_append_right _ _ (Nat.le_refl _), Nat.sub_self]; rfl
/-! ### trimmed -/
theorem lstD_of {n : Nat} {S : Store} {xs : List D} (h : S[n]? = some (Cell.lst xs) ∨ S[n]? = some (Cell.ro xs)) : lstD (.loc n) S = some xs := by
  unfold lstD
  rcases h with h | h <;> (dsimp only; rw [h])
theorem itemsD_of {n : Nat} {S : Store} {xs : List D} (h : S[n]? = some (Cell.lst xs) ∨ S[n]? = some (Cell.ro xs)) : itemsD (.loc n) S = some xs := by
  unfold itemsD
  rcases h with h | h <;> (dsimp only; rw [h])
theorem oIx_loc {n : Nat} {S : Store} {xs : List D} {i : Int} (h : S[n]? = some (Cell.lst xs) ∨ S[n]? = some (Cell.ro xs)) : oIx (.loc n) (.int i) S = (L2.atI xs i).map fun d => (d, S) := by
  unfold oIx
  rcases h with h | h <;> (dsimp only; rw [h])
theorem atI_ints {ns : List Int} {i : Nat} {x : Int} (h : ns[i]? = some x) : L2.atI (zs ns) (i : Int) = some (.int x) := by
  refine atI_nat ?_
  rw [List.getElem?_map, h]; rfl
theorem oLen_loc {n : Nat} {S : Store} {xs : List D} (h : S[n]? = some (Cell.lst xs) ∨ S[n]? = some (Cell.ro xs)) : oLen (.loc n) S = some (.int xs.length, S) := by
  show (itemsD (.loc n) S).map _ = _
  rw [itemsD_of h]; rfl
theorem cut_take (xs : List D) (k : Nat) (hk : k ≤ xs.length) : cutD xs none (some (k : Int)) = xs.take k := by
  unfold cutD
  rw [HT.sIx_none, HT.sIx_nat, List.drop_zero, Nat.sub_zero, Nat.min_eq_left hk]
/-! ### added -/
def addAt : Nat → List Int → List Int → List Int
  | _, tot, [] => tot
  | i, tot, y :: ys => addAt (i + 1) (tot.set i (tot.getD i 0 + y)) ys
theorem addAt_len : ∀ (i : Nat) (tot ys : List Int), (addAt i tot ys).length = tot.length
  | _, _, [] => rfl
  | i, tot, y :: ys => by show (addAt (i + 1) _ ys).length = _; rw [addAt_len, List.length_set]
def addL (a b : List Int) : List Int := if b.length ≤ a.length then addAt 0 a b else addAt 0 b a
theorem getD_ints {tot : List Int} {i : Nat} (h : i < tot.length) : tot[i]? = some (tot.getD i 0) := by
  simp [List.getD, h]
theorem ixN_nat {n i : Nat} (h : i < n) : ixN n (i : Int) = some i := by
  unfold ixN
  rw [if_pos (by omega), if_pos (by omega)]; simp
theorem putD_loc {S U : Store} {xs : List D} {i : Nat} {v : D} (h : i < xs.length) : putD (.loc S.length) (.int i) v (S ++ Cell.lst xs :: U) = some (S ++ Cell.lst (xs.set i v) :: U) := by
  unfold putD
  dsimp only
  rw [get_last]
  show (ixN xs.length (i : Int)).map (fun j => (S ++ Cell.lst xs :: U).set S.length (.lst (xs.set j v))) = _
  rw [ixN_nat h]
  show some ((S ++ Cell.lst xs :: U).set S.length (.lst (xs.set i v))) = _
  rw [set_last]
open Classical in
theorem forL_nil {G : Store → Prop} {tg : Tg} {s1 : Sv} {σ S} (h : G S) : forL G tg s1 [] σ S = some (.nx σ S) := if_pos h
open Classical in
theorem forL_cons {G : Store → Prop} {tg : Tg} {s1 : Sv} {σ σ1 σ2 S S2 d ds} (h : G S) (h1 : setD tg d σ = some σ1) (h2 : s1 σ1 S = some (.nx σ2 S2)) : forL G tg s1 (d :: ds) σ S = forL G tg s1 ds σ2 S2 := by
  have e : forL G tg s1 (d :: ds) σ S = (if G S then (setD tg d σ).bind fun σ1 => (s1 σ1 S).bind fun f => match f with
    | .nx σ' S' => forL G tg s1 ds σ' S'
    | .ct σ' S' => forL G tg s1 ds σ' S'
    | .bk σ' S' => some (.nx σ' S')
    | .rt d S' => some (.rt d S') else none) := rfl
  rw [e, if_pos h, h1]
  show (s1 σ1 S).bind _ = _
  rw [h2]; rfl
theorem sFor_of {it : EvI} {tg : Tg} {s1 : Sv} {σ S items S1 G} (h : it σ S = some (items, S1, G)) : sFor it tg s1 σ S = forL G tg s1 items σ S1 := by
  unfold sFor; rw [h]; rfl
def f_added : Fn := fn2 fun x y S => match x, y with
  | .tup xs, .tup ys => (intsOf xs).bind fun a => (intsOf ys).map fun b => (.loc S.length, S ++ [.lst (zs (addL a b))])
  | _, _ => none
/-! ### poly_sum -/
theorem f_added_ints (a b : List Int) (S : Store) : f_added [.tup (zs a), .tup (zs b)] S = some (.loc S.length, S ++ [.lst (zs (addL a b))]) := by
  show (intsOf (zs a)).bind _ = _
  rw [intsOf_ints]
  show (intsOf (zs b)).map _ = _
  rw [intsOf_ints]; rfl
end Pf
set_option maxHeartbeats 1000000
namespace Pf
open PySem L2 Q2
/-! ### multiplied -/
def mulAll (ys : List Int) : Nat → List Int → List Int → List Int
  | _, tot, [] => tot
  | i, tot, x :: xs => mulAll ys (i + 1) (addAt i tot (ys.map (x * ·))) xs
theorem mulAll_len (ys : List Int) : ∀ (i : Nat) (tot xs : List Int), (mulAll ys i tot xs).length = tot.length
  | _, _, [] => rfl
  | i, tot, x :: xs => by show (mulAll ys (i + 1) _ xs).length = _; rw [mulAll_len, addAt_len]
def mulL (a b : List Int) : List Int := if a = [] ∨ b = [] then [] else mulAll b 0 (List.replicate (a.length + b.length - 1) 0) a
def Bd (B : Nat) (ns : List Int) : Prop := ∀ n ∈ ns, n.natAbs < B
def MOk (a b : List Int) : Prop := Bd (2 ^ 20000) a ∧ Bd (2 ^ 20000) b ∧ a.length ≤ 1000 ∧ b.length ≤ 1000
theorem flat_rep (n : Nat) : (List.replicate n [D.int 0]).flatten = zs (List.replicate n 0) := by
  induction n with
  | zero => rfl
  | succ n ih => rw [List.replicate_succ, List.flatten_cons, ih, List.replicate_succ]; rfl
end Pf
set_option maxHeartbeats 1000000
namespace Pf
open PySem L2 Q2
/-! ### what is shown fits -/
theorem shown_int_len {i : Int} {k : Nat} (hk : 0 < k) (h : i.natAbs < 2 ^ k) : (PyData.int i).shown.length ≤ k + 1 := by
  rw [PyData.shown_int, PySem.ofString_length]
  cases i with
  | ofNat m =>
    show (Nat.repr m).length ≤ _
    exact Nat.le_succ_of_le (PySem.nat_repr_length_le hk h)
  | negSucc m =>
    show ("-" ++ Nat.repr (m + 1)).length ≤ _
    rw [String.length_append]
    have := PySem.nat_repr_length_le hk (show m + 1 < 2 ^ k from h)
    show 1 + _ ≤ _
    omega
structure Rp (k n : Nat) (p : PyData) : Prop where
  sh : p.showable = true
  nd : p.hasDict = false
  dp : p.depth ≤ k
  ls : PyData.leavesShort 1921 p = true
  bk : p.bulk ≤ n
structure RpA (k n : Nat) (p : List PyData) : Prop where
  sh : PyData.showableAll p = true
  nd : PyData.hasDictAll p = false
  dp : PyData.depthAll p ≤ k
  ls : PyData.leavesShortAll 1921 p = true
  bk : PyData.bulkAll p ≤ n
theorem Rp.int {i : Int} (h : i.natAbs < 2 ^ 1920) : Rp 0 0 (.int i) := by
  refine ⟨?_, by simp [PyData.hasDict], by simp [PyData.depth], ?_, by simp [PyData.bulk]⟩
  · simp only [PyData.showable]; exact decide_eq_true (log2_small h (by decide))
  · simp only [PyData.leavesShort]; exact decide_eq_true (shown_int_len (by decide) h)
theorem RpA.nil : RpA 0 0 [] := ⟨by simp [PyData.showableAll], by simp [PyData.hasDictAll], by simp [PyData.depthAll], by simp [PyData.leavesShortAll], by simp [PyData.bulkAll]⟩
theorem RpA.cons {k n m : Nat} {p : PyData} {ps : List PyData} (h : Rp k n p) (t : RpA k m ps) : RpA k (n + 1 + m) (p :: ps) := by
  refine ⟨?_, ?_, ?_, ?_, ?_⟩
  · simp [PyData.showableAll, h.sh, t.sh]
  · simp [PyData.hasDictAll, h.nd, t.nd]
  · simp only [PyData.depthAll]; have := h.dp; have := t.dp; omega
  · simp [PyData.leavesShortAll, h.ls, t.ls]
  · simp only [PyData.bulkAll]; have := h.bk; have := t.bk; omega
theorem RpA.up {k n k' n' : Nat} {ps : List PyData} (t : RpA k n ps) (hk : k ≤ k') (hn : n ≤ n') : RpA k' n' ps := ⟨t.sh, t.nd, Nat.le_trans t.dp hk, t.ls, Nat.le_trans t.bk hn⟩
theorem Rp.up {k n k' n' : Nat} {ps : PyData} (t : Rp k n ps) (hk : k ≤ k') (hn : n ≤ n') : Rp k' n' ps := ⟨t.sh, t.nd, Nat.le_trans t.dp hk, t.ls, Nat.le_trans t.bk hn⟩
theorem Rp.tup {k n : Nat} {ps : List PyData} (t : RpA k n ps) : Rp (k + 1) n (.tuple ps) := by
  refine ⟨?_, ?_, ?_, ?_, ?_⟩
  · simp [PyData.showable, t.sh]
  · simp [PyData.hasDict, t.nd]
  · simp only [PyData.depth]; have := t.dp; omega
  · simp [PyData.leavesShort, t.ls]
  · simp only [PyData.bulk]; exact t.bk
theorem RpA.ints : ∀ {ns : List Int}, Bd (2 ^ 1920) ns → RpA 0 ns.length (ns.map .int)
  | [], _ => .nil
  | n :: ns, h => (RpA.cons (Rp.int (h n (List.mem_cons_self ..))) (RpA.ints fun m hm => h m (List.mem_cons_of_mem _ hm))).up (Nat.le_refl _) (by rw [List.length_cons]; omega)
theorem Rp.ok {k n : Nat} {p : PyData} (h : Rp k n p) (hk : k ≤ 64) (hn : n ≤ 8000) : ReprOk p := by
  refine ⟨h.sh, h.nd, Nat.le_trans h.dp hk, ?_⟩
  have := PyData.shown_le_bulk 1921 (by decide) p h.ls
  have h2 := h.bk
  have : (1921 + 2) * p.bulk ≤ 1923 * 8000 := Nat.mul_le_mul_left _ (by omega)
  show _ ≤ 2 ^ 24
  omega
theorem mapO_ints (S : Store) (n : Nat) : ∀ ns : List Int, mapO (toP S (n + 1)) (zs ns) = some (ns.map .int)
  | [] => rfl
  | i :: ns => by
    show (toP S (n + 1) (.int i)).bind (fun y => (mapO (toP S (n + 1)) (zs ns)).map fun ys => y :: ys) = _
    rw [mapO_ints S n ns]; rfl
theorem toP_ints (S : Store) (n : Nat) (ns : List Int) : toP S (n + 2) (.tup (zs ns)) = some (.tuple (ns.map .int)) := by
  show (mapO (toP S (n + 1)) (zs ns)).map PyData.tuple = _
  rw [mapO_ints]; rfl
theorem repr_ints {S : Store} {ns : List Int} (h : Bd (2 ^ 1920) ns) (hl : ns.length ≤ 1000) : fRepr [.tup (zs ns)] S = some (.str (PyData.tuple (ns.map .int)).shown, S) := by
  show (toP S 8 (.tup (zs ns))).bind _ = _
  rw [toP_ints]
  exact if_pos ((Rp.tup (RpA.ints h)).ok (by decide) (by omega))
/-! ### poly_product -/
open Classical in
noncomputable def f_poly_product : Fn := fn2 fun x y S => match x, y with
  | .tup xs, .tup ys => (intsOf xs).bind fun a => (intsOf ys).bind fun b => if MOk a b then some (.tup (zs (mulL a b)), S) else none
  | _, _ => none
/-! ### worth -/
end Pf
set_option maxHeartbeats 1000000
namespace Pf
open PySem L2 Q2
theorem oMul_ints {i j : Int} {S : Store} (h : MulC i j) : oMul (.int i) (.int j) S = some (.int (i * j), S) := if_pos h
/-! ### the law's own worth -/
end Pf
set_option maxHeartbeats 1000000
namespace Pf
open PySem L2 Q2
/-! ### a def told by what it does -/
open Classical in
noncomputable def fSem (mb : Sv) (N : List Str) (P : List D → Store → D → Store → Prop) : Fn := fun ds S => if h : ∃ r : D × Store, Sem mb N ds S r.1 r.2 ∧ P ds S r.1 r.2 then some h.choose else none
theorem fSem_both {mb : Sv} {N P ds S d S'} (e : fSem mb N P ds S = some (d, S')) : Sem mb N ds S d S' ∧ P ds S d S' := by
  unfold fSem at e
  split at e
  · rename_i h
    have e' := Option.some.inj e
    have := h.choose_spec
    rw [e'] at this
    exact this
  · cases e
theorem fSem_ex {mb : Sv} {N P ds S d S'} (h1 : Sem mb N ds S d S') (h2 : P ds S d S') : ∃ d S', fSem mb N P ds S = some (d, S') ∧ P ds S d S' := by
  have h : ∃ r : D × Store, Sem mb N ds S r.1 r.2 ∧ P ds S r.1 r.2 := ⟨(d, S'), h1, h2⟩
  have e : fSem mb N P ds S = some h.choose := by unfold fSem; exact dif_pos h
  exact ⟨h.choose.1, h.choose.2, e, h.choose_spec.2⟩
/-! ### cells -/
theorem putD_at {S : Store} {n : Nat} {xs : List D} {i : Nat} {v : D} (h : S[n]? = some (Cell.lst xs)) (hi : i < xs.length) : putD (.loc n) (.int (i : Nat)) v S = some (S.set n (.lst (xs.set i v))) := by
  unfold putD
  dsimp only
  rw [h]
  show (ixN xs.length (i : Int)).map (fun j => S.set n (.lst (xs.set j v))) = _
  rw [ixN_nat hi]; rfl
theorem get_set {S : Store} {n : Nat} {c c' : Cell} (h : S[n]? = some c) : (S.set n c')[n]? = some c' := by
  rw [List.getElem?_set_self (List.getElem?_eq_some_iff.mp h).1]
theorem keepsW {S U : Store} {n : Nat} {X : Cell} (hX : X.cl = true) : Keeps S (S.set n X ++ U) := by
  refine ⟨by simp, fun i hi => ?_⟩
  rw [List.getElem?_append_left (by rw [List.length_set]; exact hi)]
  by_cases h : n = i
  · subst h
    exact .inr ⟨X, by rw [List.getElem?_set_self hi], hX⟩
  · rw [List.getElem?_set_ne h]; exact .inl rfl
theorem takeW {S U : Store} {n : Nat} {X : Cell} : (S.set n X ++ U).take S.length = S.set n X := List.take_left' (List.length_set ..)
abbrev C3 (a b c : Int) : Cell := .lst [.int a, .int b, .int c]
theorem ix3_0 {S : Store} {n : Nat} {a b c : Int} (h : S[n]? = some (C3 a b c)) : oIx (.loc n) (.int 0) S = some (.int a, S) := (oIx_loc (.inl h)).trans rfl
theorem ix3_1 {S : Store} {n : Nat} {a b c : Int} (h : S[n]? = some (C3 a b c)) : oIx (.loc n) (.int 1) S = some (.int b, S) := (oIx_loc (.inl h)).trans rfl
theorem ix3_2 {S : Store} {n : Nat} {a b c : Int} (h : S[n]? = some (C3 a b c)) : oIx (.loc n) (.int 2) S = some (.int c, S) := (oIx_loc (.inl h)).trans rfl
theorem put3_1 {S : Store} {n : Nat} {a b c v : Int} (h : S[n]? = some (C3 a b c)) : putD (.loc n) (.int 1) (.int v) S = some (S.set n (C3 a v c)) := putD_at (i := 1) h (by show 1 < 3; decide)
theorem put3_2 {S : Store} {n : Nat} {a b c v : Int} (h : S[n]? = some (C3 a b c)) : putD (.loc n) (.int 2) (.int v) S = some (S.set n (C3 a b v)) := putD_at (i := 2) h (by show 2 < 3; decide)
theorem mulC_l {i j : Int} (h : i.natAbs < 2 ^ 64) : MulC i j := .inl h
theorem mulC_r {i j : Int} (h : j.natAbs < 2 ^ 64) : MulC i j := .inr (.inl h)
theorem oFdiv_ints {i j : Int} {S : Store} (h : DivC i j) : oFdiv (.int i) (.int j) S = some (.int (i.fdiv j), S) := if_pos h
theorem oMod_ints {i j : Int} {S : Store} (h : j ≠ 0) : oMod (.int i) (.int j) S = some (.int (i.fmod j), S) := if_pos h
theorem oPow_ints {i j : Int} {S : Store} (h : PowC i j) : oPow (.int i) (.int j) S = some (.int (i ^ j.toNat), S) := if_pos h
theorem divC_s {i j : Int} (h : j ≠ 0) (h' : j.natAbs < 2 ^ 64) : DivC i j := ⟨h, Nat.lt_trans h' (Nat.pow_lt_pow_right (by decide) (by decide))⟩
/-! ### feed -/
noncomputable def m_law_feed : Sv := sSeq (sSet 2 (ev2 oAdd (ev2 oMul (evC (.int 7919)) (evVar 1)) (evC (.int 5)))) (sSeq (sIf (evB (ev2 oLt (evVar 1) (evF fLen (eaCons (evVar 0) (eaNil))))) (sSet 2 (ev2 oIx (evVar 0) (evVar 1))) (sIf (evB (ev2 oGt (evF fLen (eaCons (evVar 0) (eaNil))) (evC (.int 0)))) (sSet 2 (ev2 oAdd (ev2 oMod (ev2 oIx (evVar 0) (ev2 oMod (evVar 1) (evF fLen (eaCons (evVar 0) (eaNil))))) (evC (.int 2147483629))) (ev2 oMul (evC (.int 31)) (evVar 1)))) (sSkip))) (sRet (evLst (eaCons (evVar 2) (eaCons (evC (.int 0)) (eaCons (ev2 oMul (evVar 2) (evF fInt1 (eaCons (ev2 oGe (evVar 2) (ev2 oPow (evC (.int 10)) (evC (.int 18)))) (eaNil)))) (eaNil)))))))
def P_feed : List D → Store → D → Store → Prop := fun ds S d S' => ds.length = 2 ∧ ∃ a c, d = .loc S.length ∧ S' = S ++ [C3 a 0 c]
noncomputable def f_law_feed : Fn := fSem m_law_feed ["_law_script", "_law_k", "_law_cell"] P_feed
theorem sem_law_feed : ∀ ds S d S', f_law_feed ds S = some (d, S') → Sem m_law_feed ["_law_script", "_law_k", "_law_cell"] ds S d S' := fun _ _ _ _ e => (fSem_both e).1
theorem ar_law_feed : ∀ ds S r, f_law_feed ds S = some r → ds.length = 2 := fun _ _ _ e => (fSem_both e).2.1
theorem feed_mid {S : Store} {n : Nat} {ns : List Int} {k : Nat} {z : Int} (h : S[n]? = some (Cell.lst (zs ns)) ∨ S[n]? = some (Cell.ro (zs ns))) : ∃ a : Int,
    sIf (evB (ev2 oLt (evVar 1) (evF fLen (eaCons (evVar 0) (eaNil))))) (sSet 2 (ev2 oIx (evVar 0) (evVar 1))) (sIf (evB (ev2 oGt (evF fLen (eaCons (evVar 0) (eaNil))) (evC (.int 0)))) (sSet 2 (ev2 oAdd (ev2 oMod (ev2 oIx (evVar 0) (ev2 oMod (evVar 1) (evF fLen (eaCons (evVar 0) (eaNil))))) (evC (.int 2147483629))) (ev2 oMul (evC (.int 31)) (evVar 1)))) (sSkip)) [some (.loc n), some (.int (k : Nat)), some (.int z)] S = some (.nx [some (.loc n), some (.int (k : Nat)), some (.int a)] S) := by
  have hl := oLen_loc h
  rw [List.length_map] at hl
  have t1 : evB (ev2 oLt (evVar 1) (evF fLen (eaCons (evVar 0) (eaNil)))) [some (.loc n), some (.int (k : Nat)), some (.int z)] S = some (decide ((k : Int) < (ns.length : Int)), S) := by
    show (((oLen (.loc n) S).bind fun q => oLt (.int k) q.1 q.2).bind _) = _
    rw [hl]; rfl
  have t2 : evB (ev2 oGt (evF fLen (eaCons (evVar 0) (eaNil))) (evC (.int 0))) [some (.loc n), some (.int (k : Nat)), some (.int z)] S = some (decide ((0 : Int) < (ns.length : Int)), S) := by
    show (((oLen (.loc n) S).bind fun q => oGt q.1 (.int 0) q.2).bind _) = _
    rw [hl]; rfl
  by_cases h1 : k < ns.length
  · have hx : ns[k]? = some ns[k] := List.getElem?_eq_getElem h1
    refine ⟨ns[k], ?_⟩
    unfold sIf
    rw [t1, decide_eq_true (by omega : (k : Int) < (ns.length : Int))]
    show (oIx (.loc n) (.int (k : Nat)) S).map _ = _
    rw [oIx_loc h, atI_ints hx]; rfl
  · by_cases h2 : 0 < ns.length
    · have h3 : ((ns.length : Nat) : Int) ≠ 0 := by omega
      have e3 : (k : Int).fmod (ns.length : Int) = ((k % ns.length : Nat) : Int) := by
        rw [Int.fmod_eq_emod_of_nonneg _ (by omega)]; rfl
      have hx : ns[k % ns.length]? = some (ns[k % ns.length]'(Nat.mod_lt _ h2)) := List.getElem?_eq_getElem _
      refine ⟨(ns[k % ns.length]'(Nat.mod_lt _ h2)).fmod 2147483629 + 31 * k, ?_⟩
      unfold sIf
      rw [t1, decide_eq_false (by omega : ¬ (k : Int) < (ns.length : Int))]
      show (evB (ev2 oGt (evF fLen (eaCons (evVar 0) (eaNil))) (evC (.int 0))) [some (.loc n), some (.int (k : Nat)), some (.int z)] S).bind _ = _
      rw [t2, decide_eq_true (by omega : (0 : Int) < (ns.length : Int))]
      show ((((((oLen (.loc n) S).bind fun q => oMod (.int k) q.1 q.2).bind fun q => oIx (.loc n) q.1 q.2).bind fun q => oMod q.1 (.int 2147483629) q.2).bind fun q => ((oMul (.int 31) (.int k) q.2).bind fun y => oAdd q.1 y.1 y.2)).map _) = _
      rw [hl]
      show ((((oMod (.int k) (.int ns.length) S).bind fun q => oIx (.loc n) q.1 q.2).bind fun q => oMod q.1 (.int 2147483629) q.2).bind fun q => ((oMul (.int 31) (.int k) q.2).bind fun y => oAdd q.1 y.1 y.2)).map _ = _
      rw [oMod_ints h3, e3]
      show (((oIx (.loc n) (.int ((k % ns.length : Nat) : Int)) S).bind fun q => oMod q.1 (.int 2147483629) q.2).bind fun q => ((oMul (.int 31) (.int k) q.2).bind fun y => oAdd q.1 y.1 y.2)).map _ = _
      rw [oIx_loc h, atI_ints hx]
      show ((oMod (.int (ns[k % ns.length]'(Nat.mod_lt _ h2))) (.int 2147483629) S).bind fun q => ((oMul (.int 31) (.int k) q.2).bind fun y => oAdd q.1 y.1 y.2)).map _ = _
      rw [oMod_ints (by decide)]
      show ((oMul (.int 31) (.int k) S).bind fun y => oAdd (.int ((ns[k % ns.length]'(Nat.mod_lt _ h2)).fmod 2147483629)) y.1 y.2).map _ = _
      rw [oMul_ints (mulC_l (by decide))]; rfl
    · refine ⟨z, ?_⟩
      unfold sIf
      rw [t1, decide_eq_false (by omega : ¬ (k : Int) < (ns.length : Int))]
      show (evB (ev2 oGt (evF fLen (eaCons (evVar 0) (eaNil))) (evC (.int 0))) [some (.loc n), some (.int (k : Nat)), some (.int z)] S).bind _ = _
      rw [t2, decide_eq_false (by omega : ¬ (0 : Int) < (ns.length : Int))]; rfl
theorem spec_feed {S : Store} {n : Nat} {ns : List Int} (k : Nat) (h : S[n]? = some (Cell.lst (zs ns)) ∨ S[n]? = some (Cell.ro (zs ns))) : ∃ a c, f_law_feed [.loc n, .int (k : Nat)] S = some (.loc S.length, S ++ [C3 a 0 c]) := by
  obtain ⟨a, r⟩ := feed_mid (k := k) (z := 7919 * k + 5) h
  have p18 : PowC 10 18 := ⟨by decide, by decide, by decide⟩
  have a1 : sSet 2 (ev2 oAdd (ev2 oMul (evC (.int 7919)) (evVar 1)) (evC (.int 5))) (startD ["_law_script", "_law_k", "_law_cell"] [.loc n, .int (k : Nat)]) S = some (.nx [some (.loc n), some (.int (k : Nat)), some (.int (7919 * k + 5))] S) := by
    show ((oMul (.int 7919) (.int k) S).bind fun q => oAdd q.1 (.int 5) q.2).map _ = _
    rw [oMul_ints (mulC_l (by decide))]; rfl
  have a3 : ∃ c, sRet (evLst (eaCons (evVar 2) (eaCons (evC (.int 0)) (eaCons (ev2 oMul (evVar 2) (evF fInt1 (eaCons (ev2 oGe (evVar 2) (ev2 oPow (evC (.int 10)) (evC (.int 18)))) (eaNil)))) (eaNil))))) [some (.loc n), some (.int (k : Nat)), some (.int a)] S = some (.rt (.loc S.length) (S ++ [C3 a 0 c])) := by
    refine ⟨a * (if decide ((10 : Int) ^ (18 : Int).toNat ≤ a) = true then 1 else 0), ?_⟩
    have b1 : ev2 oMul (evVar 2) (evF fInt1 (eaCons (ev2 oGe (evVar 2) (ev2 oPow (evC (.int 10)) (evC (.int 18)))) (eaNil))) [some (.loc n), some (.int (k : Nat)), some (.int a)] S = some (.int (a * (if decide ((10 : Int) ^ (18 : Int).toNat ≤ a) = true then 1 else 0)), S) := by
      show (((((oPow (.int 10) (.int 18) S).bind fun q => oGe (.int a) q.1 q.2).bind fun q => some ([q.1], q.2)).bind fun q => fInt1 q.1 q.2).bind fun q => oMul (.int a) q.1 q.2) = _
      rw [oPow_ints p18]
      show oMul (.int a) (.int (if decide ((10 : Int) ^ (18 : Int).toNat ≤ a) = true then 1 else 0)) S = _
      refine oMul_ints (mulC_r ?_)
      split <;> decide
    show ((((((ev2 oMul (evVar 2) (evF fInt1 (eaCons (ev2 oGe (evVar 2) (ev2 oPow (evC (.int 10)) (evC (.int 18)))) (eaNil))) [some (.loc n), some (.int (k : Nat)), some (.int a)] S).bind fun q => some ([q.1], q.2)).map fun q => (D.int 0 :: q.1, q.2)).map fun q => (D.int a :: q.1, q.2)).bind fun p => if p.1.length ≤ 1000 then some (D.loc p.2.length, p.2 ++ [Cell.lst p.1]) else none).map _) = _
    rw [b1]; rfl
  obtain ⟨c, a3⟩ := a3
  obtain ⟨d, S', e, _, a', c', rfl, rfl⟩ := fSem_ex (P := P_feed) (Sem.rt ((sSeq_nx a1).trans ((sSeq_nx r).trans a3))) ⟨rfl, a, c, rfl, rfl⟩
  exact ⟨a', c', e⟩
end Pf
set_option maxHeartbeats 1000000
namespace Pf
open PySem L2 Q2
/-! ### take -/
noncomputable def m_law_take : Sv := sSeq (sPut (evVar 0) (evC (.int 1)) (ev2 oAdd (ev2 oIx (evVar 0) (evC (.int 1))) (evC (.int 1)))) (sSeq (sIf (evB (ev2 oGt (ev2 oIx (evVar 0) (evC (.int 2))) (evC (.int 0)))) (sSeq (sSet 2 (ev2 oMod (ev2 oIx (evVar 0) (evC (.int 2))) (evVar 1))) (sSeq (sPut (evVar 0) (evC (.int 2)) (ev2 oFdiv (ev2 oIx (evVar 0) (evC (.int 2))) (evVar 1))) (sRet (evVar 2)))) (sSkip)) (sSeq (sSet 3 (ev2 oIx (evVar 0) (evC (.int 1)))) (sSeq (sSet 4 (ev2 oAdd (ev2 oAdd (ev2 oMod (ev2 oIx (evVar 0) (evC (.int 0))) (evC (.int 2147483629))) (ev2 oMul (ev2 oMul (evC (.int 7919)) (evVar 3)) (evVar 3))) (ev2 oMul (evC (.int 104729)) (evVar 3)))) (sSeq (sSet 4 (ev2 oMod (ev2 oMul (evVar 4) (evC (.int 48271))) (evC (.int 2147483647)))) (sSeq (sSet 4 (ev2 oMod (ev2 oMul (ev2 oAdd (ev2 oFdiv (evVar 4) (evC (.int 64))) (ev2 oMul (evC (.int 613)) (evVar 3))) (evC (.int 69621))) (evC (.int 2147483587)))) (sRet (ev2 oMod (ev2 oFdiv (evVar 4) (evC (.int 64))) (evVar 1))))))))
def P_take : List D → Store → D → Store → Prop := fun ds S d S' => ds.length = 2 ∧ ∃ n m a b c r c' , ds = [.loc n, .int m] ∧ S[n]? = some (C3 a b c) ∧ d = .int r ∧ 0 ≤ r ∧ r < m ∧ S' = S.set n (C3 a (b + 1) c')
noncomputable def f_law_take : Fn := fSem m_law_take ["_law_feed_here", "_law_many", "_law_found", "_law_turn", "_law_mixed"] P_take
theorem run_take {S : Store} {n : Nat} {a b c m : Int} (h : S[n]? = some (C3 a b c)) (hm : 0 < m) (hm2 : m < 2 ^ 64) (hb : 0 ≤ b) (hb2 : b < 2 ^ 60) : ∃ r c', 0 ≤ r ∧ r < m ∧ m_law_take (startD ["_law_feed_here", "_law_many", "_law_found", "_law_turn", "_law_mixed"] [.loc n, .int m]) S = some (.rt (.int r) (S.set n (C3 a (b + 1) c'))) := by
  have h1 : (S.set n (C3 a (b + 1) c))[n]? = some (C3 a (b + 1) c) := get_set h
  have a1 : sPut (evVar 0) (evC (.int 1)) (ev2 oAdd (ev2 oIx (evVar 0) (evC (.int 1))) (evC (.int 1))) (startD ["_law_feed_here", "_law_many", "_law_found", "_law_turn", "_law_mixed"] [.loc n, .int m]) S = some (.nx [some (.loc n), some (.int m), none, none, none] (S.set n (C3 a (b + 1) c))) := by
    show (((oIx (.loc n) (.int 1) S).bind fun p => oAdd p.1 (.int 1) p.2).bind _) = _
    rw [ix3_1 h]
    show (putD (.loc n) (.int 1) (.int (b + 1)) S).map _ = _
    rw [put3_1 h]; rfl
  generalize hT : S.set n (C3 a (b + 1) c) = T at *
  have t1 : evB (ev2 oGt (ev2 oIx (evVar 0) (evC (.int 2))) (evC (.int 0))) [some (.loc n), some (.int m), none, none, none] T = some (decide (0 < c), T) := by
    show (((oIx (.loc n) (.int 2) T).bind fun p => oGt p.1 (.int 0) p.2).bind _) = _
    rw [ix3_2 h1]; rfl
  have hmz : m ≠ 0 := by omega
  by_cases hc : 0 < c
  · refine ⟨c.fmod m, c.fdiv m, Int.fmod_nonneg_of_pos _ hm, Int.fmod_lt_of_pos _ hm, ?_⟩
    refine (sSeq_nx a1).trans (sSeq_rt ?_)
    unfold sIf
    rw [t1, decide_eq_true hc]
    have b1 : sSet 2 (ev2 oMod (ev2 oIx (evVar 0) (evC (.int 2))) (evVar 1)) [some (.loc n), some (.int m), none, none, none] T = some (.nx [some (.loc n), some (.int m), some (.int (c.fmod m)), none, none] T) := by
      show (((oIx (.loc n) (.int 2) T).bind fun p => oMod p.1 (.int m) p.2).map _) = _
      rw [ix3_2 h1]
      show (oMod (.int c) (.int m) T).map _ = _
      rw [oMod_ints hmz]; rfl
    have b2 : sPut (evVar 0) (evC (.int 2)) (ev2 oFdiv (ev2 oIx (evVar 0) (evC (.int 2))) (evVar 1)) [some (.loc n), some (.int m), some (.int (c.fmod m)), none, none] T = some (.nx [some (.loc n), some (.int m), some (.int (c.fmod m)), none, none] (T.set n (C3 a (b + 1) (c.fdiv m)))) := by
      show (((oIx (.loc n) (.int 2) T).bind fun p => oFdiv p.1 (.int m) p.2).bind _) = _
      rw [ix3_2 h1]
      show ((oFdiv (.int c) (.int m) T).bind fun v => (putD (.loc n) (.int 2) v.1 v.2).map _) = _
      rw [oFdiv_ints (divC_s hmz (by omega))]
      show (putD (.loc n) (.int 2) (.int (c.fdiv m)) T).map _ = _
      rw [put3_2 h1]; rfl
    show sSeq _ _ _ _ = _
    refine (sSeq_nx b1).trans ((sSeq_nx b2).trans ?_)
    rw [← hT, List.set_set]; rfl
  · have e0 : ∃ r, 0 ≤ r ∧ r < m ∧ (sSeq (sSet 3 (ev2 oIx (evVar 0) (evC (.int 1)))) (sSeq (sSet 4 (ev2 oAdd (ev2 oAdd (ev2 oMod (ev2 oIx (evVar 0) (evC (.int 0))) (evC (.int 2147483629))) (ev2 oMul (ev2 oMul (evC (.int 7919)) (evVar 3)) (evVar 3))) (ev2 oMul (evC (.int 104729)) (evVar 3)))) (sSeq (sSet 4 (ev2 oMod (ev2 oMul (evVar 4) (evC (.int 48271))) (evC (.int 2147483647)))) (sSeq (sSet 4 (ev2 oMod (ev2 oMul (ev2 oAdd (ev2 oFdiv (evVar 4) (evC (.int 64))) (ev2 oMul (evC (.int 613)) (evVar 3))) (evC (.int 69621))) (evC (.int 2147483587)))) (sRet (ev2 oMod (ev2 oFdiv (evVar 4) (evC (.int 64))) (evVar 1))))))) [some (.loc n), some (.int m), none, none, none] T = some (.rt (.int r) T) := by
      have b1 : sSet 3 (ev2 oIx (evVar 0) (evC (.int 1))) [some (.loc n), some (.int m), none, none, none] T = some (.nx [some (.loc n), some (.int m), none, some (.int (b + 1)), none] T) := by
        show (oIx (.loc n) (.int 1) T).map _ = _
        rw [ix3_1 h1]; rfl
      have b2 : ∃ x, sSet 4 (ev2 oAdd (ev2 oAdd (ev2 oMod (ev2 oIx (evVar 0) (evC (.int 0))) (evC (.int 2147483629))) (ev2 oMul (ev2 oMul (evC (.int 7919)) (evVar 3)) (evVar 3))) (ev2 oMul (evC (.int 104729)) (evVar 3))) [some (.loc n), some (.int m), none, some (.int (b + 1)), none] T = some (.nx [some (.loc n), some (.int m), none, some (.int (b + 1)), some (.int x)] T) := by
        refine ⟨a.fmod 2147483629 + 7919 * (b + 1) * (b + 1) + 104729 * (b + 1), ?_⟩
        have e1 : ev2 oMod (ev2 oIx (evVar 0) (evC (.int 0))) (evC (.int 2147483629)) [some (.loc n), some (.int m), none, some (.int (b + 1)), none] T = some (.int (a.fmod 2147483629), T) := by
          show ((oIx (.loc n) (.int 0) T).bind fun p => oMod p.1 (.int 2147483629) p.2) = _
          rw [ix3_0 h1]; exact oMod_ints (by decide)
        have e2 : ev2 oMul (ev2 oMul (evC (.int 7919)) (evVar 3)) (evVar 3) [some (.loc n), some (.int m), none, some (.int (b + 1)), none] T = some (.int (7919 * (b + 1) * (b + 1)), T) := by
          show ((oMul (.int 7919) (.int (b + 1)) T).bind fun p => oMul p.1 (.int (b + 1)) p.2) = _
          rw [oMul_ints (mulC_l (by decide))]; exact oMul_ints (mulC_r (by omega))
        have e3 : ev2 oMul (evC (.int 104729)) (evVar 3) [some (.loc n), some (.int m), none, some (.int (b + 1)), none] T = some (.int (104729 * (b + 1)), T) := by
          show oMul (.int 104729) (.int (b + 1)) T = _
          exact oMul_ints (mulC_l (by decide))
        unfold sSet ev2 at *
        rw [e1]
        dsimp only [Option.bind_some]
        rw [e2]
        dsimp only [Option.bind_some, oAdd]
        rw [e3]
        rfl
      obtain ⟨x, b2⟩ := b2
      have b3 : ∃ x', sSet 4 (ev2 oMod (ev2 oMul (evVar 4) (evC (.int 48271))) (evC (.int 2147483647))) [some (.loc n), some (.int m), none, some (.int (b + 1)), some (.int x)] T = some (.nx [some (.loc n), some (.int m), none, some (.int (b + 1)), some (.int x')] T) := by
        refine ⟨(x * 48271).fmod 2147483647, ?_⟩
        show (((oMul (.int x) (.int 48271) T).bind fun p => oMod p.1 (.int 2147483647) p.2).map _) = _
        rw [oMul_ints (mulC_r (by decide))]
        show (oMod (.int (x * 48271)) (.int 2147483647) T).map _ = _
        rw [oMod_ints (by decide)]; rfl
      obtain ⟨x', b3⟩ := b3
      have b4 : ∃ x'', sSet 4 (ev2 oMod (ev2 oMul (ev2 oAdd (ev2 oFdiv (evVar 4) (evC (.int 64))) (ev2 oMul (evC (.int 613)) (evVar 3))) (evC (.int 69621))) (evC (.int 2147483587))) [some (.loc n), some (.int m), none, some (.int (b + 1)), some (.int x')] T = some (.nx [some (.loc n), some (.int m), none, some (.int (b + 1)), some (.int x'')] T) := by
        refine ⟨((x'.fdiv 64 + 613 * (b + 1)) * 69621).fmod 2147483587, ?_⟩
        show (((((oFdiv (.int x') (.int 64) T).bind fun p => ((oMul (.int 613) (.int (b + 1)) p.2).bind fun q => oAdd p.1 q.1 q.2)).bind fun p => oMul p.1 (.int 69621) p.2).bind fun p => oMod p.1 (.int 2147483587) p.2).map _) = _
        rw [oFdiv_ints (divC_s (by decide) (by decide))]
        show (((((oMul (.int 613) (.int (b + 1)) T).bind fun q => oAdd (.int (x'.fdiv 64)) q.1 q.2)).bind fun p => oMul p.1 (.int 69621) p.2).bind fun p => oMod p.1 (.int 2147483587) p.2).map _ = _
        rw [oMul_ints (mulC_l (by decide))]
        show (((oMul (.int (x'.fdiv 64 + 613 * (b + 1))) (.int 69621) T)).bind fun p => oMod p.1 (.int 2147483587) p.2).map _ = _
        rw [oMul_ints (mulC_r (by decide))]
        show (oMod (.int ((x'.fdiv 64 + 613 * (b + 1)) * 69621)) (.int 2147483587) T).map _ = _
        rw [oMod_ints (by decide)]; rfl
      obtain ⟨x'', b4⟩ := b4
      refine ⟨(x''.fdiv 64).fmod m, Int.fmod_nonneg_of_pos _ hm, Int.fmod_lt_of_pos _ hm, ?_⟩
      refine (sSeq_nx b1).trans ((sSeq_nx b2).trans ((sSeq_nx b3).trans ((sSeq_nx b4).trans ?_)))
      show (((oFdiv (.int x'') (.int 64) T).bind fun p => oMod p.1 (.int m) p.2).map _) = _
      rw [oFdiv_ints (divC_s (by decide) (by decide))]
      show (oMod (.int (x''.fdiv 64)) (.int m) T).map _ = _
      rw [oMod_ints hmz]; rfl
    obtain ⟨r, r1, r2, e0⟩ := e0
    refine ⟨r, c, r1, r2, ?_⟩
    have t2 : sIf (evB (ev2 oGt (ev2 oIx (evVar 0) (evC (.int 2))) (evC (.int 0)))) (sSeq (sSet 2 (ev2 oMod (ev2 oIx (evVar 0) (evC (.int 2))) (evVar 1))) (sSeq (sPut (evVar 0) (evC (.int 2)) (ev2 oFdiv (ev2 oIx (evVar 0) (evC (.int 2))) (evVar 1))) (sRet (evVar 2)))) (sSkip) [some (.loc n), some (.int m), none, none, none] T = some (.nx [some (.loc n), some (.int m), none, none, none] T) := by
      unfold sIf
      rw [t1, decide_eq_false hc]; rfl
    rw [hT]
    exact (sSeq_nx a1).trans ((sSeq_nx t2).trans e0)
theorem spec_take {S : Store} {n : Nat} {a b c m : Int} (h : S[n]? = some (C3 a b c)) (hm : 0 < m) (hm2 : m < 2 ^ 64) (hb : 0 ≤ b) (hb2 : b < 2 ^ 60) : ∃ r c', f_law_take [.loc n, .int m] S = some (.int r, S.set n (C3 a (b + 1) c')) ∧ 0 ≤ r ∧ r < m := by
  obtain ⟨r, c', h1, h2, e⟩ := run_take h hm hm2 hb hb2
  obtain ⟨d, S', e, _, n', m', a', b', c1, r', c2, e1, e2, rfl, g1, g2, rfl⟩ := fSem_ex (P := P_take) (Sem.rt e) ⟨rfl, n, m, a, b, c, r, c', rfl, h, rfl, h1, h2, rfl⟩
  cases e1
  rw [h] at e2
  cases e2
  exact ⟨r', c2, e, g1, g2⟩
/-! ### cut -/
theorem canLay_ints : ∀ ns : List Int, PyData.canLayAll0 (ns.map .int) = true
  | [] => by simp [PyData.canLayAll0]
  | n :: ns => by simp [PyData.canLayAll0, PyData.canLay0]; exact canLay_ints ns
theorem depth_ints : ∀ ns : List Int, PyData.depthAll (ns.map .int) = 0
  | [] => by simp [PyData.depthAll]
  | n :: ns => by simp [PyData.depthAll, PyData.depth]; exact depth_ints ns
theorem shaped_list (ns : List Int) : SeqAt.shaped (.list (ns.map .int)) = true := by
  simp [SeqAt.shaped, PyData.canLay0, canLay_ints, PyData.depth, depth_ints]
theorem shaped_tup (ns : List Int) : SeqAt.shaped (.tuple (ns.map .int)) = true := by
  simp [SeqAt.shaped, PyData.canLay0, canLay_ints, PyData.depth, depth_ints]
theorem toP_lst {S : Store} {n : Nat} {ns : List Int} (h : S[n]? = some (Cell.lst (zs ns))) : toP S 8 (.loc n) = some (.list (ns.map .int)) := by
  unfold toP
  dsimp only
  rw [h]
  show (mapO (toP S 7) (zs ns)).map PyData.list = _
  rw [mapO_ints]; rfl
end Pf
set_option maxHeartbeats 1000000
namespace Pf
open PySem L2 Q2
/-! ### a step at a time -/
theorem eaCons_of {m : Ev} {r : EvA} {σ S d S1 ds S2} (h1 : m σ S = some (d, S1)) (h2 : r σ S1 = some (ds, S2)) : eaCons m r σ S = some (d :: ds, S2) := by
  unfold eaCons; rw [h1]; show (r σ S1).map _ = _; rw [h2]; rfl
theorem ea1 {m : Ev} {σ S d S1} (h1 : m σ S = some (d, S1)) : eaCons m eaNil σ S = some ([d], S1) := eaCons_of h1 rfl
theorem ea2 {m m2 : Ev} {σ S d S1 d2 S2} (h1 : m σ S = some (d, S1)) (h2 : m2 σ S1 = some (d2, S2)) : eaCons m (eaCons m2 eaNil) σ S = some ([d, d2], S2) := eaCons_of h1 (ea1 h2)
theorem ea3 {m m2 m3 : Ev} {σ S d S1 d2 S2 d3 S3} (h1 : m σ S = some (d, S1)) (h2 : m2 σ S1 = some (d2, S2)) (h3 : m3 σ S2 = some (d3, S3)) : eaCons m (eaCons m2 (eaCons m3 eaNil)) σ S = some ([d, d2, d3], S3) := eaCons_of h1 (ea2 h2 h3)
theorem evF_of {F : Fn} {mr : EvA} {σ S ds S1 r} (h : mr σ S = some (ds, S1)) (h2 : F ds S1 = some r) : evF F mr σ S = some r := by
  unfold evF; rw [h]; exact h2
theorem sRet_of {m : Ev} {σ S d S1} (h : m σ S = some (d, S1)) : sRet m σ S = some (.rt d S1) := by
  unfold sRet; rw [h]; rfl
theorem sSet_of {m : Ev} {i : Nat} {σ S d S1} (h : m σ S = some (d, S1)) : sSet i m σ S = some (.nx (σ.set i (some d)) S1) := by
  unfold sSet; rw [h]; rfl
theorem ev2_of {o : Op2} {ma mb : Ev} {σ S a S1 b S2 r} (h1 : ma σ S = some (a, S1)) (h2 : mb σ S1 = some (b, S2)) (h3 : o a b S2 = some r) : ev2 o ma mb σ S = some r := by
  unfold ev2; rw [h1]; show ((mb σ S1).bind _) = _; rw [h2]; exact h3
theorem evB_of {m : Ev} {σ S b S1} (h : m σ S = some (.bl b, S1)) : evB m σ S = some (b, S1) := by
  unfold evB; rw [h]; rfl
theorem sIf_f {t : EvT} {s1 s2 : Sv} {σ S S1} (h : t σ S = some (false, S1)) : sIf t s1 s2 σ S = s2 σ S1 := by
  unfold sIf; rw [h]; rfl
theorem sIf_t {t : EvT} {s1 s2 : Sv} {σ S S1} (h : t σ S = some (true, S1)) : sIf t s1 s2 σ S = s1 σ S1 := by
  unfold sIf; rw [h]; rfl
theorem evTup_of {mr : EvA} {σ S ds S1} (h : mr σ S = some (ds, S1)) (hl : ds.length ≤ 1000) : evTup mr σ S = some (.tup ds, S1) := by
  unfold evTup; rw [h]; exact if_pos hl
theorem evLst_of {mr : EvA} {σ S ds S1} (h : mr σ S = some (ds, S1)) (hl : ds.length ≤ 1000) : evLst mr σ S = some (.loc S1.length, S1 ++ [.lst ds]) := by
  unfold evLst; rw [h]; exact if_pos hl
theorem evOr_f {ta tb : EvT} {σ S S1} (h : ta σ S = some (false, S1)) : evOr ta tb σ S = tb σ S1 := by
  unfold evOr; rw [h]; rfl
theorem sPar_of {mr : EvA} {i j : Nat} {σ S d e S1} (h : mr σ S = some ([d, e], S1)) : sPar i j mr σ S = some (.nx ((σ.set i (some d)).set j (some e)) S1) := by
  unfold sPar; rw [h]; rfl
theorem getU1 {L : Store} {k : Nat} {A : Cell} {U : Store} (h : L.length = k) : (L ++ A :: U)[k]? = some A := by subst h; exact get_last
theorem getU2 {L : Store} {k : Nat} {A B : Cell} {U : Store} (h : L.length = k) : (L ++ A :: B :: U)[k + 1]? = some B := by
  subst h
  rw [List.getElem?_append_right (by omega)]; simp
theorem setU2 {L : Store} {k : Nat} {A B B' : Cell} {U : Store} (h : L.length = k) : (L ++ A :: B :: U).set (k + 1) B' = L ++ A :: B' :: U := by
  subst h
  rw [List.set_append_right _ _ (by omega)]; simp
theorem pick {ms : List Int} {r : Int} (h0 : 0 ≤ r) (h1 : r < ms.length) : ∃ x, x ∈ ms ∧ L2.atI (zs ms) r = some (.int x) := by
  obtain ⟨k, rfl⟩ := Int.eq_ofNat_of_zero_le h0
  have hk : k < ms.length := by omega
  exact ⟨ms[k], List.getElem_mem hk, atI_ints (List.getElem?_eq_getElem hk)⟩
open Classical in
theorem lcL_cons {G : Store → Prop} {tg : Tg} {te : Ev} {σ σ2 : Sg} {n : Nat} {S S' : Store} {d y : D} {ds acc : List D} (h : G S) (h1 : setD tg d σ = some σ2) (h2 : te σ2 S = some (y, S')) (h3 : S'[n]? = some (Cell.lst acc)) (h4 : acc.length < 100000) : lcL G tg evYes te σ n (d :: ds) S = lcL G tg evYes te σ n ds (S'.set n (.lst (acc ++ [y]))) := by
  have e : lcL G tg evYes te σ n (d :: ds) S = (if G S then (setD tg d σ).bind fun σ2 => (evYes σ2 S).bind fun b => if b.1 = true then (te σ2 b.2).bind fun y => (match y.2[n]? with
      | some (Cell.lst acc) => if acc.length < 100000 then lcL G tg evYes te σ n ds (y.2.set n (.lst (acc ++ [y.1]))) else none
      | _ => none) else lcL G tg evYes te σ n ds b.2 else none) := rfl
  rw [e, if_pos h, h1]
  show ((te σ2 S).bind _) = _
  rw [h2]
  show (match S'[n]? with
      | some (Cell.lst acc) => if acc.length < 100000 then lcL G tg evYes te σ n ds (S'.set n (.lst (acc ++ [y]))) else none
      | _ => none) = _
  rw [h3]
  exact if_pos h4
open Classical in
theorem lcL_nil {G : Store → Prop} {tg : Tg} {tt : EvT} {te : Ev} {σ : Sg} {n : Nat} {S : Store} (h : G S) : lcL G tg tt te σ n [] S = some S := if_pos h
theorem evLC_of {it : EvI} {tg : Tg} {tt : EvT} {te : Ev} {vs : List Nat} {σ : Sg} {S S1 S' : Store} {items : List D} {G : Store → Prop} (h : it σ S = some (items, S1, G)) (h2 : lcL G tg tt te (wipeD σ vs) S1.length items (S1 ++ [.lst []]) = some S') : evLC it tg tt te vs σ S = some (.loc S1.length, S') := by
  unfold evLC
  rw [h]
  show (lcL G tg tt te (wipeD σ vs) S1.length items (S1 ++ [.lst []])).map _ = _
  rw [h2]; rfl
end Pf
set_option maxHeartbeats 1000000
namespace Pf
open PySem L2 Q2
/-! ### numbers of polys by place -/
abbrev co (a : List Int) (k : Nat) : Int := a.getD k 0
theorem co_set {tot : List Int} {i : Nat} {y : Int} (h : i < tot.length) (k : Nat) : co (tot.set i (co tot i + y)) k = co tot k + (if k = i then y else 0) := by
  unfold co
  rw [List.getD_eq_getElem?_getD, List.getD_eq_getElem?_getD, List.getD_eq_getElem?_getD, List.getElem?_set]
  by_cases e : i = k
  · subst e
    simp [h]
  · simp [e, Ne.symm e]
theorem co_addAt : ∀ (ys : List Int) (i : Nat) (tot : List Int), i + ys.length ≤ tot.length → ∀ k, co (addAt i tot ys) k = co tot k + (if i ≤ k then co ys (k - i) else 0)
  | [], i, tot, _, k => by
    show co tot k = _
    have : co [] (k - i) = 0 := by simp [co]
    rw [this]; simp
  | y :: ys, i, tot, h, k => by
    rw [List.length_cons] at h
    show co (addAt (i + 1) (tot.set i (tot.getD i 0 + y)) ys) k = _
    rw [co_addAt ys (i + 1) _ (by rw [List.length_set]; omega) k, co_set (by omega)]
    by_cases e : k = i
    · subst e
      rw [if_neg (show ¬ k + 1 ≤ k by omega)]
      simp [co]
    · by_cases l : i ≤ k
      · obtain ⟨m, rfl⟩ : ∃ m, k = i + 1 + m := ⟨k - (i + 1), by omega⟩
        have e1 : i + 1 + m - (i + 1) = m := by omega
        have e2 : i + 1 + m - i = m + 1 := by omega
        rw [if_neg e, if_pos (by omega), if_pos l, e1, e2]
        simp [co]
      · rw [if_neg e, if_neg (by omega), if_neg l]; omega
/-- the numbers of a product -/
def cv : List Int → List Int → Nat → Int
  | [], _, _ => 0
  | x :: a, b, 0 => x * co b 0
  | x :: a, b, k + 1 => x * co b (k + 1) + cv a b k
theorem co_map (c : Int) (ys : List Int) (k : Nat) : co (ys.map (c * ·)) k = c * co ys k := by
  unfold co
  rw [List.getD_eq_getElem?_getD, List.getD_eq_getElem?_getD, List.getElem?_map]
  cases ys[k]? <;> simp
theorem co_mulAll (ys : List Int) : ∀ (xs : List Int) (i : Nat) (tot : List Int), i + xs.length + ys.length ≤ tot.length + 1 → ∀ k, co (mulAll ys i tot xs) k = co tot k + (if i ≤ k then cv xs ys (k - i) else 0)
  | [], i, tot, _, k => by
    show co tot k = _
    simp [cv]
  | x :: xs, i, tot, h, k => by
    rw [List.length_cons] at h
    show co (mulAll ys (i + 1) (addAt i tot (ys.map (x * ·))) xs) k = _
    rw [co_mulAll ys xs (i + 1) _ (by rw [addAt_len]; omega) k, co_addAt _ _ _ (by rw [List.length_map]; omega), co_map]
    by_cases l : i ≤ k
    · rw [if_pos l, if_pos l]
      by_cases e : k = i
      · subst e
        rw [if_neg (by omega), Nat.sub_self]
        show _ = _ + x * co ys 0
        omega
      · obtain ⟨m, rfl⟩ : ∃ m, k = i + 1 + m := ⟨k - (i + 1), by omega⟩
        have e1 : i + 1 + m - (i + 1) = m := by omega
        have e2 : i + 1 + m - i = m + 1 := by omega
        rw [if_pos (by omega), e1, e2]
        show _ = _ + (x * co ys (m + 1) + cv xs ys m)
        omega
    · rw [if_neg l, if_neg l, if_neg (by omega)]; omega
theorem cv_nil : ∀ (a : List Int) (k : Nat), cv a [] k = 0
  | [], _ => rfl
  | x :: a, 0 => by show x * co [] 0 = 0; simp [co]
  | x :: a, k + 1 => by show x * co [] (k + 1) + cv a [] k = 0; rw [cv_nil a k]; simp [co]
theorem cv_cons : ∀ (a : List Int) (y : Int) (b : List Int) (k : Nat), cv a (y :: b) k = y * co a k + (match k with | 0 => 0 | k + 1 => cv a b k)
  | [], y, b, k => by
    have : co [] k = 0 := by simp [co]
    rw [this]
    cases k <;> simp [cv]
  | x :: a, y, b, 0 => by
    show x * co (y :: b) 0 = y * co (x :: a) 0 + 0
    simp [co, Int.mul_comm]
  | x :: a, y, b, k + 1 => by
    show x * co b k + cv a (y :: b) k = y * co a k + cv (x :: a) b k
    rw [cv_cons a y b k]
    cases k with
    | zero => show x * co b 0 + (y * co a 0 + 0) = y * co a 0 + x * co b 0; omega
    | succ k => show x * co b (k + 1) + (y * co a (k + 1) + cv a b k) = y * co a (k + 1) + (x * co b (k + 1) + cv a b k); omega
theorem ext_co {a b : List Int} (hl : a.length = b.length) (h : ∀ k, co a k = co b k) : a = b := by
  refine List.ext_getElem hl fun i h1 h2 => ?_
  have := h i
  unfold co at this
  rw [List.getD_eq_getElem?_getD, List.getD_eq_getElem?_getD, List.getElem?_eq_getElem h1, List.getElem?_eq_getElem h2] at this
  exact this
theorem co_zeros (n k : Nat) : co (List.replicate n 0) k = 0 := by
  unfold co
  rw [List.getD_eq_getElem?_getD, List.getElem?_replicate]
  split <;> rfl
theorem mulL_length {a b : List Int} (ha : a ≠ []) (hb : b ≠ []) : (mulL a b).length = a.length + b.length - 1 := by
  unfold mulL
  rw [if_neg (by simp [ha, hb]), mulAll_len, List.length_replicate]
theorem co_mulL (a b : List Int) (k : Nat) : co (mulL a b) k = cv a b k := by
  unfold mulL
  split
  · rename_i h
    rcases h with rfl | rfl
    · simp [co, cv]
    · rw [cv_nil]; simp [co]
  · rename_i h
    have h1 : a.length ≠ 0 := fun z => h (.inl (List.eq_nil_of_length_eq_zero z))
    rw [co_mulAll b a 0 _ (by rw [List.length_replicate]; omega), co_zeros]
    simp
/-! ### sums -/
theorem co_addL (a b : List Int) (k : Nat) : co (addL a b) k = co a k + co b k := by
  unfold addL
  split
  · rw [co_addAt _ _ _ (by omega)]; simp
  · rw [co_addAt _ _ _ (by omega)]; simp [Int.add_comm]
theorem addL_length (a b : List Int) : (addL a b).length = max a.length b.length := by
  unfold addL
  split
  · rw [addAt_len]; omega
  · rw [addAt_len]; omega
/-! ### no nought at the end -/
def Nz (a : List Int) : Prop := ∀ n, a.length = n + 1 → co a n ≠ 0
theorem Nz.trim {a : List Int} (h : Nz a) : trim a = a := by
  unfold Pf.trim
  have e : tl a a.length = a.length := by
    cases hn : a.length with
    | zero => rfl
    | succ n =>
      have hlt : n < a.length := by omega
      have := h n hn
      unfold co at this
      rw [List.getD_eq_getElem?_getD, List.getElem?_eq_getElem hlt] at this
      show (if a[n]? = some 0 then tl a n else n + 1) = n + 1
      rw [if_neg]
      rw [List.getElem?_eq_getElem hlt]
      intro z
      exact this (Option.some.inj z)
  rw [e, List.take_length]
theorem tl_nz (a : List Int) : ∀ (e n : Nat), e ≤ a.length → tl a e = n + 1 → co a n ≠ 0
  | 0, n, _, h => by cases h
  | e + 1, n, he, h => by
    have h : (if a[e]? = some 0 then tl a e else e + 1) = n + 1 := h
    by_cases z : a[e]? = some 0
    · rw [if_pos z] at h; exact tl_nz a e n (by omega) h
    · rw [if_neg z] at h
      have : e = n := by omega
      subst this
      intro c
      unfold co at c
      rw [List.getD_eq_getElem?_getD, List.getElem?_eq_getElem (by omega)] at c
      exact z ((List.getElem?_eq_getElem (by omega)).trans (congrArg some c))
theorem nz_trim (a : List Int) : Nz (Pf.trim a) := by
  intro n hn
  have hle := tl_le a a.length
  have hl : (Pf.trim a).length = tl a a.length := by unfold Pf.trim; rw [List.length_take]; omega
  have := tl_nz a a.length n (Nat.le_refl _) (hl ▸ hn)
  unfold co at *
  rw [List.getD_eq_getElem?_getD] at this ⊢
  unfold Pf.trim
  rw [List.getElem?_take, if_pos (by omega)]
  exact this
theorem cv_top : ∀ (a b : List Int) (m n : Nat), a.length = m + 1 → b.length = n + 1 → cv a b (m + n) = co a m * co b n
  | [], _, _, _, h, _ => by cases h
  | [x], b, m, n, h, hb => by
    have : m = 0 := by simpa using h.symm
    subst this
    rw [Nat.zero_add]
    cases n with
    | zero => show x * co b 0 = co [x] 0 * co b 0; simp [co]
    | succ n => show x * co b (n + 1) + cv [] b n = co [x] 0 * co b (n + 1); simp [co, cv]
  | x :: y :: a, b, m, n, h, hb => by
    rw [List.length_cons] at h
    obtain ⟨m, rfl⟩ : ∃ k, m = k + 1 := ⟨a.length, by simp at h; omega⟩
    rw [show m + 1 + n = (m + n) + 1 by omega]
    show x * co b (m + n + 1) + cv (y :: a) b (m + n) = co (y :: a) m * co b n
    rw [cv_top (y :: a) b m n (by omega) hb]
    have : co b (m + n + 1) = 0 := by
      unfold co
      rw [List.getD_eq_getElem?_getD, List.getElem?_eq_none (by omega)]; rfl
    rw [this]; omega
theorem Nz.mulL {a b : List Int} (ha : Nz a) (hb : Nz b) : Nz (mulL a b) := by
  intro k hk
  have ea : a ≠ [] := by rintro rfl; simp [Pf.mulL] at hk
  have eb : b ≠ [] := by rintro rfl; simp [Pf.mulL] at hk
  obtain ⟨m, hm⟩ : ∃ m, a.length = m + 1 := ⟨a.length - 1, by have := List.length_pos_iff.mpr ea; omega⟩
  obtain ⟨n, hn⟩ : ∃ n, b.length = n + 1 := ⟨b.length - 1, by have := List.length_pos_iff.mpr eb; omega⟩
  rw [mulL_length ea eb, hm, hn] at hk
  have : k = m + n := by omega
  subst this
  rw [co_mulL, cv_top a b m n hm hn]
  exact Int.mul_ne_zero (ha m hm) (hb n hn)
/-- the sum, place by place -/
theorem addL_range (a b : List Int) : addL a b = (List.range (max a.length b.length)).map fun k => co a k + co b k := by
  refine ext_co (by rw [addL_length]; simp) fun k => ?_
  rw [co_addL]
  by_cases h : k < max a.length b.length
  · unfold co
    simp [List.getD_eq_getElem?_getD, List.getElem?_map, List.getElem?_range h]
  · have h1 : co a k = 0 := by unfold co; rw [List.getD_eq_getElem?_getD, List.getElem?_eq_none (by omega)]; rfl
    have h2 : co b k = 0 := by unfold co; rw [List.getD_eq_getElem?_getD, List.getElem?_eq_none (by omega)]; rfl
    rw [h1, h2]
    unfold co
    rw [List.getD_eq_getElem?_getD, List.getElem?_eq_none (by simp; omega)]; rfl
end Pf
set_option maxHeartbeats 1000000
namespace Pf
open PySem L2 Q2
/-! ### comprehensions whose elements make nothing -/
theorem lcL_map {α : Type} {G : Store → Prop} {tg : Tg} {te : Ev} {σ : Sg} {S : Store} (f g : α → D) (hG : ∀ S, G S) : ∀ (xs : List α) (acc : List D), (∀ x ∈ xs, ∃ σ2, setD tg (f x) σ = some σ2 ∧ ∀ acc, te σ2 (S ++ [.lst acc]) = some (g x, S ++ [.lst acc])) → acc.length + xs.length ≤ 100000 →
    lcL G tg evYes te σ S.length (xs.map f) (S ++ [.lst acc]) = some (S ++ [.lst (acc ++ xs.map g)])
  | [], acc, _, _ => by rw [List.map_nil, List.map_nil, List.append_nil]; exact lcL_nil (hG _)
  | x :: xs, acc, h, hl => by
    rw [List.length_cons] at hl
    obtain ⟨σ2, h1, h2⟩ := h x List.mem_cons_self
    refine (lcL_cons (hG _) h1 (h2 acc) get_last (by omega)).trans ?_
    rw [set_last]
    have := lcL_map (te := te) (σ := σ) (tg := tg) (S := S) f g hG xs (acc ++ [g x]) (fun y hy => h y (List.mem_cons_of_mem _ hy)) (by rw [List.length_append, List.length_singleton]; omega)
    rw [this, List.append_assoc]; rfl
theorem evLC_map {α : Type} {it : EvI} {G : Store → Prop} {tg : Tg} {te : Ev} {vs : List Nat} {σ : Sg} {S S1 : Store} (f g : α → D) (xs : List α) (h : it σ S = some (xs.map f, S1, G)) (hG : ∀ S, G S) (ht : ∀ x ∈ xs, ∃ σ2, setD tg (f x) (wipeD σ vs) = some σ2 ∧ ∀ acc, te σ2 (S1 ++ [.lst acc]) = some (g x, S1 ++ [.lst acc])) (hl : xs.length ≤ 100000) :
    evLC it tg evYes te vs σ S = some (.loc S1.length, S1 ++ [.lst (xs.map g)]) := by
  unfold evLC
  rw [h]
  show (lcL G tg evYes te (wipeD σ vs) S1.length (xs.map f) (S1 ++ [.lst []])).map _ = _
  rw [lcL_map f g hG xs [] ht (by simpa using hl)]; rfl
theorem mulC_big {i j : Int} (h1 : i.natAbs < 2 ^ 20000) (h2 : j.natAbs < 2 ^ 20000) : MulC i j := .inr (.inr ⟨h1, h2⟩)
/-! ### times -/
/-! ### derived -/
theorem evRng_two {mr : EvA} {σ : Sg} {S S1 : Store} {i j : Int} (h : mr σ S = some ([.int i, .int j], S1)) (h1 : Small i) (h2 : Small j) : evRng mr σ S = some (rangeD i (j - i).toNat, S1, fun _ => True) := by
  unfold evRng; rw [h]; exact if_pos ⟨h1, h2⟩
theorem evRng_one {mr : EvA} {σ : Sg} {S S1 : Store} {j : Int} (h : mr σ S = some ([.int j], S1)) (h2 : Small j) : evRng mr σ S = some (rangeD 0 j.toNat, S1, fun _ => True) := by
  unfold evRng; rw [h]; exact if_pos h2
theorem small_nat {n : Nat} (h : n ≤ 1000000) : Small (n : Int) := ⟨by omega, by omega⟩
theorem oIx_tup {ns : List Int} {i : Nat} {S : Store} (h : i < ns.length) : oIx (.tup (zs ns)) (.int (i : Nat)) S = some (.int (co ns i), S) := by
  show (L2.atI (zs ns) (i : Int)).map (fun d => (d, S)) = _
  rw [atI_ints (getD_ints h)]; rfl
end Pf
set_option maxHeartbeats 1000000
namespace Pf
open PySem L2 Q2
/-! ### the law's own product -/
abbrev lmBody : Sv := sPut (evVar 2) (ev2 oAdd (evVar 3) (evVar 4)) (ev2 oAdd (ev2 oIx (evVar 2) (ev2 oAdd (evVar 3) (evVar 4))) (ev2 oMul (ev2 oIx (evVar 0) (evVar 3)) (ev2 oIx (evVar 1) (evVar 4))))
noncomputable abbrev lmRow : Sv := sFor (evRng (eaCons (evF fLen (eaCons (evVar 1) (eaNil))) (eaNil))) (.nm 4) lmBody
/-- whole numbers from j on -/
abbrev from_ (j n : Nat) : List D := (List.range' j n).map fun (i : Nat) => D.int (i : Int)
theorem from_succ (j n : Nat) : from_ j (n + 1) = .int (j : Nat) :: from_ (j + 1) n := by unfold from_; rw [List.range'_succ]; rfl
theorem rangeD_from (n : Nat) : rangeD 0 n = from_ 0 n := by
  unfold rangeD from_
  rw [List.range_eq_range']
  refine List.map_congr_left fun i _ => ?_
  rw [Int.zero_add]
theorem sPut_of {mo mi mv : Ev} {σ : Sg} {S S1 S2 S3 S4 : Store} {v o i : D} (h1 : mv σ S = some (v, S1)) (h2 : mo σ S1 = some (o, S2)) (h3 : mi σ S2 = some (i, S3)) (h4 : putD o i v S3 = some S4) : sPut mo mi mv σ S = some (.nx σ S4) := by
  unfold sPut
  rw [h1]
  show (mo σ S1).bind _ = _
  rw [h2]
  show (mi σ S2).bind _ = _
  rw [h3]
  show (putD o i v S3).map _ = _
  rw [h4]; rfl
theorem oAdd_nat (i j : Nat) (S : Store) : oAdd (.int (i : Nat)) (.int (j : Nat)) S = some (.int ((i + j : Nat) : Int), S) := by
  show some (D.int ((i : Int) + (j : Int)), S) = _
  rw [show (i : Int) + (j : Int) = ((i + j : Nat) : Int) by omega]
theorem run_lmIn {S U : Store} {G : Store → Prop} (hG : ∀ S, G S) {a b : List Int} (ha : Bd (2 ^ 20000) a) (hb : Bd (2 ^ 20000) b) {i : Nat} (hi : i < a.length) : ∀ (n j : Nat) (tot : List Int) (u : Option D), j + n = b.length → i + b.length ≤ tot.length → ∃ u',
    forL G (.nm 4) lmBody (from_ j n) [some (.tup (zs a)), some (.tup (zs b)), some (.loc S.length), some (.int (i : Nat)), u] (S ++ .lst (zs tot) :: U) = some (.nx [some (.tup (zs a)), some (.tup (zs b)), some (.loc S.length), some (.int (i : Nat)), u'] (S ++ .lst (zs (addAt (i + j) tot ((b.drop j).map (co a i * ·)))) :: U))
  | 0, j, tot, u, h, _ => ⟨u, by
      have e : b.drop j = [] := List.drop_eq_nil_of_le (by omega)
      rw [e]; exact forL_nil (hG _)⟩
  | n + 1, j, tot, u, h, ht => by
    have hj : j < b.length := by omega
    have hij : i + j < tot.length := by omega
    have hx : (co a i).natAbs < 2 ^ 20000 := ha _ (by unfold co; rw [List.getD_eq_getElem?_getD, List.getElem?_eq_getElem hi]; exact List.getElem_mem hi)
    have hy : (co b j).natAbs < 2 ^ 20000 := hb _ (by unfold co; rw [List.getD_eq_getElem?_getD, List.getElem?_eq_getElem hj]; exact List.getElem_mem hj)
    obtain ⟨u', ih⟩ := run_lmIn (S := S) (U := U) hG ha hb hi n (j + 1) (tot.set (i + j) (co tot (i + j) + co a i * co b j)) (some (.int (j : Nat))) (by omega) (by rw [List.length_set]; omega)
    refine ⟨u', ?_⟩
    rw [from_succ]
    have s : lmBody [some (.tup (zs a)), some (.tup (zs b)), some (.loc S.length), some (.int (i : Nat)), some (.int (j : Nat))] (S ++ .lst (zs tot) :: U) = some (.nx [some (.tup (zs a)), some (.tup (zs b)), some (.loc S.length), some (.int (i : Nat)), some (.int (j : Nat))] (S ++ .lst (zs (tot.set (i + j) (co tot (i + j) + co a i * co b j))) :: U)) := by
      have hix : oIx (.loc S.length) (.int ((i + j : Nat) : Int)) (S ++ Cell.lst (zs tot) :: U) = some (.int (co tot (i + j)), S ++ Cell.lst (zs tot) :: U) := (oIx_loc (.inl get_last)).trans (by rw [atI_ints (getD_ints hij)]; rfl)
      refine sPut_of (ev2_of (ev2_of rfl (ev2_of rfl rfl (oAdd_nat i j _)) hix) (ev2_of (ev2_of rfl rfl (oIx_tup hi)) (ev2_of rfl rfl (oIx_tup hj)) (oMul_ints (mulC_big hx hy))) rfl) rfl (ev2_of rfl rfl (oAdd_nat i j _)) ?_
      rw [putD_loc (by rw [List.length_map]; exact hij), ← List.map_set]
    refine (forL_cons (hG _) rfl s).trans (ih.trans ?_)
    have e : b.drop j = co b j :: b.drop (j + 1) := by
      rw [List.drop_eq_getElem_cons hj]
      unfold co; rw [List.getD_eq_getElem?_getD, List.getElem?_eq_getElem hj]; rfl
    rw [e]
    rfl
theorem lm_rng {a b : List Int} {S : Store} {σ : Sg} (k : Nat) (h : σ[k]? = some (some (.tup (zs b)))) (hl : b.length ≤ 1000) : evRng (eaCons (evF fLen (eaCons (evVar k) (eaNil))) (eaNil)) σ S = some (from_ 0 b.length, S, fun _ => True) := by
  have v : evVar k σ S = some (.tup (zs b), S) := by unfold evVar; rw [h]; rfl
  have l : eaCons (evF fLen (eaCons (evVar k) (eaNil))) (eaNil) σ S = some ([.int (zs b).length], S) := ea1 (evF_of (ea1 v) rfl)
  rw [List.length_map] at l
  rw [evRng_one l (small_nat (by omega)), Int.toNat_natCast, rangeD_from]
theorem run_lmOut {S U : Store} {G : Store → Prop} (hG : ∀ S, G S) {a b : List Int} (ha : Bd (2 ^ 20000) a) (hb : Bd (2 ^ 20000) b) (hl : b.length ≤ 1000) : ∀ (n i : Nat) (tot : List Int) (u v : Option D), i + n = a.length → a.length + b.length ≤ tot.length + 1 → ∃ u' v',
    forL G (.nm 3) lmRow (from_ i n) [some (.tup (zs a)), some (.tup (zs b)), some (.loc S.length), u, v] (S ++ .lst (zs tot) :: U) = some (.nx [some (.tup (zs a)), some (.tup (zs b)), some (.loc S.length), u', v'] (S ++ .lst (zs (mulAll b i tot (a.drop i))) :: U))
  | 0, i, tot, u, v, h, _ => ⟨u, v, by
      have e : a.drop i = [] := List.drop_eq_nil_of_le (by omega)
      rw [e]; exact forL_nil (hG _)⟩
  | n + 1, i, tot, u, v, h, ht => by
    have hi : i < a.length := by omega
    obtain ⟨v1, r1⟩ := run_lmIn (S := S) (U := U) (G := fun _ => True) (fun _ => trivial) ha hb hi b.length 0 tot v (by omega) (by omega)
    obtain ⟨u', v', ih⟩ := run_lmOut (S := S) (U := U) hG ha hb hl n (i + 1) (addAt i tot (b.map (co a i * ·))) (some (.int (i : Nat))) v1 (by omega) (by rw [addAt_len]; omega)
    refine ⟨u', v', ?_⟩
    rw [from_succ]
    refine (forL_cons (hG _) (σ1 := [some (.tup (zs a)), some (.tup (zs b)), some (.loc S.length), some (.int (i : Nat)), v]) rfl ((sFor_of (lm_rng (a := a) 1 rfl hl)).trans r1)).trans ?_
    have e : a.drop i = co a i :: a.drop (i + 1) := by
      rw [List.drop_eq_getElem_cons hi]
      unfold co; rw [List.getD_eq_getElem?_getD, List.getElem?_eq_getElem hi]; rfl
    rw [e]
    exact ih
end Pf
set_option maxHeartbeats 1000000
namespace Pf
open PySem L2 Q2
theorem Bd.up {A B : Nat} {ns : List Int} (h : Bd A ns) (hab : A ≤ B) : Bd B ns := fun n hn => Nat.lt_of_lt_of_le (h n hn) hab
theorem getD_bd {T : Nat} {tot : List Int} (hT : 0 < T) (h : Bd T tot) (i : Nat) : (tot.getD i 0).natAbs < T := by
  by_cases hi : i < tot.length
  · have := getD_ints hi
    exact h _ (List.mem_of_getElem? this)
  · have : tot.getD i 0 = 0 := by simp [List.getD, List.getElem?_eq_none (by omega : tot.length ≤ i)]
    rw [this]; simpa using hT
theorem addAt_bd {Y : Nat} : ∀ (i : Nat) (T : Nat) (tot ys : List Int), 0 < T → Bd T tot → Bd Y ys → Bd (T + ys.length * Y) (addAt i tot ys)
  | _, T, tot, [], _, h, _ => by simpa [addAt] using h
  | i, T, tot, y :: ys, hT, h, hy => by
    have hy0 := hy y (List.mem_cons_self ..)
    have h1 : Bd (T + Y) (tot.set i (tot.getD i 0 + y)) := fun n hn => by
      rcases List.mem_or_eq_of_mem_set hn with hn | rfl
      · exact Nat.lt_of_lt_of_le (h n hn) (by omega)
      · have := getD_bd hT h i
        omega
    refine (addAt_bd (i + 1) (T + Y) _ ys (by omega) h1 fun n hn => hy n (List.mem_cons_of_mem _ hn)).up ?_
    rw [List.length_cons, Nat.succ_mul]; omega
theorem addL_bd {A B : Nat} {a b : List Int} (hA : 0 < A) (hB : 0 < B) (ha : Bd A a) (hb : Bd B b) : Bd (A + B + b.length * B + a.length * A) (addL a b) := by
  unfold addL
  split
  · exact (addAt_bd 0 A a b hA ha hb).up (by omega)
  · exact (addAt_bd 0 B b a hB hb ha).up (by omega)
theorem mulAll_bd {A B : Nat} {ys : List Int} (hy : Bd B ys) : ∀ (i : Nat) (T : Nat) (tot xs : List Int), 0 < T → Bd T tot → Bd A xs → Bd (T + xs.length * (ys.length * (A * B))) (mulAll ys i tot xs)
  | _, T, tot, [], _, h, _ => by simpa [mulAll] using h
  | i, T, tot, x :: xs, hT, h, hx => by
    have hx0 := hx x (List.mem_cons_self ..)
    have h1 : Bd (A * B) (ys.map (x * ·)) := fun n hn => by
      obtain ⟨y, hy1, rfl⟩ := List.mem_map.mp hn
      rw [Int.natAbs_mul]
      exact Nat.mul_lt_mul'' hx0 (hy y hy1)
    have h2 := addAt_bd i T tot _ hT h h1
    rw [List.length_map] at h2
    refine (mulAll_bd hy (i + 1) _ _ xs (by omega) h2 fun n hn => hx n (List.mem_cons_of_mem _ hn)).up ?_
    rw [List.length_cons, Nat.succ_mul]; omega
theorem mulL_bd {A B : Nat} {a b : List Int} (ha : Bd A a) (hb : Bd B b) : Bd (1 + a.length * (b.length * (A * B))) (mulL a b) := by
  unfold mulL
  split
  · exact fun _ h => absurd h List.not_mem_nil
  · exact mulAll_bd hb 0 1 _ a (by decide) (fun n hn => by rw [(List.mem_replicate.mp hn).2]; decide) ha
theorem mulL_len (a b : List Int) : (mulL a b).length ≤ a.length + b.length := by
  unfold mulL
  split
  · exact Nat.zero_le _
  · rw [mulAll_len, List.length_replicate]; omega
theorem addL_len (a b : List Int) : (addL a b).length ≤ a.length + b.length := by
  unfold addL
  split <;> rw [addAt_len] <;> omega
theorem ne_str (s : Str) (S : Store) : oNe (.str s) (.str s) S = some (.bl false, S) := by
  show some (D.bl (!decide (s = s)), S) = _
  simp
end Pf
set_option maxHeartbeats 1000000
namespace Pf
open PySem L2 Q2
/-! ### lists of tuples of numbers: shown, compared -/
abbrev ts (xss : List (List Int)) : List D := xss.map fun x => D.tup (zs x)
abbrev pys (xss : List (List Int)) : List PyData := xss.map fun x => PyData.tuple (x.map .int)
theorem mapO_ts (S : Store) (n : Nat) : ∀ xss : List (List Int), mapO (toP S (n + 2)) (ts xss) = some (pys xss)
  | [] => rfl
  | x :: xss => by
    show (toP S (n + 2) (.tup (zs x))).bind (fun y => (mapO (toP S (n + 2)) (ts xss)).map fun ys => y :: ys) = _
    rw [toP_ints, mapO_ts S n xss]; rfl
theorem Rp.lst {k n : Nat} {ps : List PyData} (t : RpA k n ps) : Rp (k + 1) n (.list ps) := by
  refine ⟨?_, ?_, ?_, ?_, ?_⟩
  · simp [PyData.showable, t.sh]
  · simp [PyData.hasDict, t.nd]
  · simp only [PyData.depth]; have := t.dp; omega
  · simp [PyData.leavesShort, t.ls]
  · simp only [PyData.bulk]; exact t.bk
theorem RpA.pys : ∀ {xss : List (List Int)}, (∀ x ∈ xss, Bd (2 ^ 1920) x ∧ x.length ≤ 100) → RpA 1 (101 * xss.length) (pys xss)
  | [], _ => RpA.nil.up (by decide) (Nat.le_refl _)
  | x :: xss, h => by
    have h1 := h x List.mem_cons_self
    exact (RpA.cons (Rp.tup (RpA.ints h1.1)) (RpA.pys fun y hy => h y (List.mem_cons_of_mem _ hy))).up (Nat.le_refl _) (by rw [List.length_cons]; omega)
theorem repr_two {S : Store} {a b : List Int} (ha : Bd (2 ^ 1920) a) (hb : Bd (2 ^ 1920) b) (la : a.length ≤ 100) (lb : b.length ≤ 100) : fRepr [.tup [.tup (zs a), .tup (zs b)]] S = some (.str (PyData.tuple (pys [a, b])).shown, S) := by
  have e : toP S 8 (.tup [.tup (zs a), .tup (zs b)]) = some (PyData.tuple (pys [a, b])) := by
    show (mapO (toP S 7) (ts [a, b])).map PyData.tuple = _
    rw [mapO_ts]; rfl
  show (toP S 8 _).bind _ = _
  rw [e]
  refine if_pos ((Rp.tup (RpA.pys (xss := [a, b]) fun x hx => ?_)).ok (by decide) (by show 101 * 2 ≤ 8000; decide))
  simp only [List.mem_cons, List.not_mem_nil, or_false] at hx
  rcases hx with rfl | rfl
  · exact ⟨ha, la⟩
  · exact ⟨hb, lb⟩
theorem eq_str (s : Str) (S : Store) : oEq (.str s) (.str s) S = some (.bl true, S) := by
  show some (D.bl (decide (s = s)), S) = _
  rw [decide_eq_true rfl]
theorem getK {S U : Store} (k : Nat) : (S ++ U)[S.length + k]? = U[k]? := by
  rw [List.getElem?_append_right (by omega), show S.length + k - S.length = k by omega]
theorem setK {S U : Store} (k : Nat) (c : Cell) : (S ++ U).set (S.length + k) c = S ++ U.set k c := by
  rw [List.set_append_right _ _ (by omega), show S.length + k - S.length = k by omega]
theorem evAndV_t {ma mb : Ev} {σ S S1} (h : ma σ S = some (.bl true, S1)) : evAndV ma mb σ S = mb σ S1 := by
  unfold evAndV; rw [h]; rfl
theorem evM_of {F : D → List D → Store → Option (D × Store)} {mo : Ev} {mr : EvA} {σ S o S1 ds S2 r} (h1 : mo σ S = some (o, S1)) (h2 : mr σ S1 = some (ds, S2)) (h3 : F o ds S2 = some r) (h0 : notD o S1 = true := by first | exact notD_lst (by assumption) | exact notD_lst get_last | exact notD_lst (getW (by assumption))) : evM F mo mr σ S = some r := by
  unfold evM; rw [h1]; show (mr σ S1).bind _ = _; rw [h2]; exact (if_pos h0).trans h3
theorem sExpr_of {m : Ev} {σ S d S1} (h : m σ S = some (d, S1)) : sExpr m σ S = some (.nx σ S1) := by
  unfold sExpr; rw [h]; rfl
theorem ea4 {m m2 m3 m4 : Ev} {σ S d S1 d2 S2 d3 S3 d4 S4} (h1 : m σ S = some (d, S1)) (h2 : m2 σ S1 = some (d2, S2)) (h3 : m3 σ S2 = some (d3, S3)) (h4 : m4 σ S3 = some (d4, S4)) : eaCons m (eaCons m2 (eaCons m3 (eaCons m4 eaNil))) σ S = some ([d, d2, d3, d4], S4) := eaCons_of h1 (ea3 h2 h3 h4)
open Classical in
theorem f_poly_product_of {a b : List Int} {S : Store} (mk : MOk a b) : f_poly_product [.tup (zs a), .tup (zs b)] S = some (.tup (zs (mulL a b)), S) := by
  show ((intsOf (zs a)).bind fun a => (intsOf (zs b)).bind fun b => if MOk a b then some (D.tup (zs (mulL a b)), S) else none) = _
  rw [intsOf_ints, Option.bind_some, intsOf_ints]; exact if_pos mk
theorem evTru_of {m : Ev} {σ S d S1 b} (h : m σ S = some (d, S1)) (h2 : truth d S1 = some b) : evTru m σ S = some (b, S1) := by
  unfold evTru; rw [h]; show (truth d S1).map _ = _; rw [h2]; rfl
theorem evNot_of {t : EvT} {σ S b S1} (h : t σ S = some (b, S1)) : evNot t σ S = some (!b, S1) := by
  unfold evNot; rw [h]; rfl
theorem ea5 {m m2 m3 m4 m5 : Ev} {σ S d S1 d2 S2 d3 S3 d4 S4 d5 S5} (h1 : m σ S = some (d, S1)) (h2 : m2 σ S1 = some (d2, S2)) (h3 : m3 σ S2 = some (d3, S3)) (h4 : m4 σ S3 = some (d4, S4)) (h5 : m5 σ S4 = some (d5, S5)) : eaCons m (eaCons m2 (eaCons m3 (eaCons m4 (eaCons m5 eaNil)))) σ S = some ([d, d2, d3, d4, d5], S5) := eaCons_of h1 (ea4 h2 h3 h4 h5)
end Pf
set_option maxHeartbeats 1000000
namespace Pf
open PySem L2 Q2
/-! ### kinds -/
def isW : D → Bool
  | .int _ => true
  | _ => false
theorem kind_app {d : D} {S U : Store} {k : Kd} (h : kindD d S = some k) : kindD d (S ++ U) = some k := by
  cases d with
  | loc n =>
    obtain ⟨rfl, ds, hs⟩ := kind_loc h
    exact loc_kind (hs.imp (fun e => by rw [List.getElem?_append_left (List.getElem?_eq_some_iff.mp e).1]; exact e) fun e => by rw [List.getElem?_append_left (List.getElem?_eq_some_iff.mp e).1]; exact e)
  | _ => exact h
def f_is_whole : Fn := fn1 fun d S => (kindD d S).map fun _ => (.bl (isW d), S)
def f_law_is_whole : Fn := f_is_whole
theorem f_is_whole_of {d : D} {S : Store} {k : Kd} (h : kindD d S = some k) : f_is_whole [d] S = some (.bl (isW d), S) := by
  show (kindD d S).map _ = _
  rw [h]; rfl
/-! ### a tuple of whole numbers -/
/-- its kind is known, and that of its parts -/
def known (d : D) (S : Store) : Bool := (kindD d S).isSome && (match d with
  | .tup ds => ds.all fun x => (kindD x S).isSome
  | _ => true)
/-- all whole: numbers -/
theorem allW_zs : ∀ {ds : List D}, ds.all isW = true → ∃ ns, ds = zs ns
  | [], _ => ⟨[], rfl⟩
  | d :: ds, h => by
    rw [List.all_cons, Bool.and_eq_true] at h
    obtain ⟨ns, rfl⟩ := allW_zs h.2
    cases d with
    | int i => exact ⟨i :: ns, rfl⟩
    | _ => exact absurd h.1 (by simp [isW])
/-! ### is_poly -/
def isPoly : D → Bool
  | .tup ds => ds.all isW && (match ds.getLast? with
    | none => true
    | some (.int i) => !decide (i = 0)
    | _ => false)
  | _ => false
def f_is_poly : Fn := fn1 fun d S => if known d S = true then some (.bl (isPoly d), S) else none
theorem f_is_poly_of {d : D} {S : Store} (h : known d S = true) : f_is_poly [d] S = some (.bl (isPoly d), S) := if_pos h
theorem oIx_back (ns : List Int) (x : Int) (S : Store) : oIx (.tup (zs (ns ++ [x]))) (.int (-1)) S = some (.int x, S) := by
  show (L2.atI (zs (ns ++ [x])) (-1)).map (fun d => (d, S)) = _
  have e : zs (ns ++ [x]) = zs ns ++ [.int x] := List.map_append
  rw [e, atI_last]; rfl
theorem ne_zero (x : Int) (S : Store) : oNe (.int x) (.int 0) S = some (.bl (!decide (x = 0)), S) := rfl
theorem snoc_of {ns : List Int} (h : ns ≠ []) : ∃ ms x, ns = ms ++ [x] := ⟨ns.dropLast, ns.getLast h, (List.dropLast_concat_getLast h).symm⟩
theorem evAndT_bl {ma mb : Ev} {σ S b S1} (h : ma σ S = some (.bl b, S1)) : evAndT ma mb σ S = if b = true then mb σ S1 else some (.bl false, S1) := by
  unfold evAndT; rw [h]; cases b <;> rfl
/-! ### is_fraction -/
def isFrac : D → Bool
  | .tup [.int a, .int b] => decide (1 ≤ b) && decide (Int.gcd a b = 1)
  | _ => false
def f_is_fraction : Fn := fn1 fun d S => if known d S = true then some (.bl (isFrac d), S) else none
theorem f_is_fraction_of {d : D} {S : Store} (h : known d S = true) : f_is_fraction [d] S = some (.bl (isFrac d), S) := if_pos h
end Pf
set_option maxHeartbeats 1000000
namespace Pf
open PySem L2 Q2
/-! ### False among truths -/
theorem in_false {α : Type} (g : α → Bool) : ∀ xs : List α, inD (.bl false) (xs.map fun x => D.bl (g x)) = !(xs.all g)
  | [] => rfl
  | x :: xs => by
    have ih := in_false g xs
    show ((eqV (.bl (g x)) (.bl false)) || inV (.bl false) ((xs.map fun x => D.bl (g x)).map vD)) = _
    have ih : inV (.bl false) ((xs.map fun x => D.bl (g x)).map vD) = !(xs.all g) := ih
    rw [ih, List.all_cons]
    cases g x <;> cases xs.all g <;> rfl
theorem flat_bls {α : Type} (g : α → Bool) : ∀ xs : List α, (xs.map fun x => D.bl (g x)).all flatD = true
  | [] => rfl
  | x :: xs => by show (true && _) = true; rw [flat_bls g xs]; rfl
theorem oIn_bls {α : Type} {S : Store} {n : Nat} {xs : List α} {g : α → Bool} (h : S[n]? = some (Cell.lst (xs.map fun x => D.bl (g x)))) : oIn false (.bl false) (.loc n) S = some (.bl (!(xs.all g)), S) := by
  unfold oIn
  rw [itemsD_of (.inl h)]
  show (if flatD (.bl false) = true ∧ (xs.map fun x => D.bl (g x)).all flatD = true then some (D.bl (inD (.bl false) (xs.map fun x => D.bl (g x))), S) else none) = _
  rw [if_pos ⟨rfl, flat_bls g xs⟩, in_false]
def knownS (d : D) (S : Store) : Bool := known d S && (match d with
  | .tup ds => decide (ds.length ≤ 1000)
  | _ => true)
theorem knownS_known {d : D} {S : Store} (h : knownS d S = true) : known d S = true := (Bool.and_eq_true_iff.mp h).1
def f_law_poly_due : Fn := fn1 fun d S => if knownS d S = true then some (.bl (isPoly d), S) else none
theorem isTup_run {d : D} {S : Store} {k : Kd} {σ : Sg} (h0 : σ[0]? = some (some d)) (h : kindD d S = some k) : evNot (evTru (ev1 (oIsi .tup) (evVar 0))) σ S = some (!isK k .tup, S) := by
  have v : evVar 0 σ S = some (d, S) := by unfold evVar; rw [h0]; rfl
  refine evNot_of (evTru_of (d := .bl (isK k .tup)) ?_ rfl)
  unfold ev1; rw [v]; show (kindD d S).map _ = _; rw [h]; rfl
theorem evOr_t {ta tb : EvT} {σ S S1} (h : ta σ S = some (true, S1)) : evOr ta tb σ S = some (true, S1) := by
  unfold evOr; rw [h]; rfl
theorem not_tup {d : D} {S : Store} {k : Kd} (h : kindD d S = some k) (hd : ∀ ds, d ≠ .tup ds) : isK k .tup = false := by
  cases d with
  | tup ds => exact absurd rfl (hd ds)
  | loc m =>
    obtain ⟨rfl, _⟩ := kind_loc h
    rfl
  | _ => cases h; rfl
/-! ### the law's own look at a fraction -/
def f_law_fraction_due : Fn := fn1 fun d S => if knownS d S = true then some (.bl (isFrac d), S) else none
end Pf
set_option maxHeartbeats 1000000
namespace Pf
open PySem L2 Q2
/-! ### things: flat ones, tuples and lists of such, some levels deep; the cells q are none of them -/
def Th (S : Store) (q : Nat → Prop) : Nat → D → Prop
  | _, .non => True
  | _, .bl _ => True
  | _, .int i => i.natAbs < 2 ^ 140
  | _, .str x => x = "" ∨ x = "1"
  | 0, .tup _ => False
  | 0, .loc _ => False
  | k + 1, .tup ds => ds.length ≤ 7 ∧ ∀ d ∈ ds, Th S q k d
  | k + 1, .loc n => ¬ q n ∧ ∃ ds, S[n]? = some (.lst ds) ∧ ds.length ≤ 7 ∧ ∀ d ∈ ds, Th S q k d
theorem Th.mono {S S' : Store} {q : Nat → Prop} (hS : ∀ n c, ¬ q n → S[n]? = some c → S'[n]? = some c) : ∀ {k : Nat} {d : D}, Th S q k d → Th S' q k d
  | 0, .non, h => h
  | 0, .bl _, h => h
  | 0, .int _, h => h
  | 0, .str _, h => h
  | k + 1, .non, h => h
  | k + 1, .bl _, h => h
  | k + 1, .int _, h => h
  | k + 1, .str _, h => h
  | k + 1, .tup ds, h => ⟨h.1, fun d hd => Th.mono hS (h.2 d hd)⟩
  | k + 1, .loc n, h => by
    obtain ⟨h1, ds, h2, h3, h4⟩ := h
    exact ⟨h1, ds, hS n _ h1 h2, h3, fun d hd => Th.mono hS (h4 d hd)⟩
theorem Th.up {S : Store} {q : Nat → Prop} : ∀ {k : Nat} {d : D}, Th S q k d → Th S q (k + 1) d
  | 0, .non, h => h
  | 0, .bl _, h => h
  | 0, .int _, h => h
  | 0, .str _, h => h
  | k + 1, .non, h => h
  | k + 1, .bl _, h => h
  | k + 1, .int _, h => h
  | k + 1, .str _, h => h
  | k + 1, .tup ds, h => ⟨h.1, fun d hd => Th.up (h.2 d hd)⟩
  | k + 1, .loc n, h => by
    obtain ⟨h1, ds, h2, h3, h4⟩ := h
    exact ⟨h1, ds, h2, h3, fun d hd => Th.up (h4 d hd)⟩
theorem Th.le {S : Store} {q : Nat → Prop} {k m : Nat} {d : D} (h : Th S q k d) (hm : k ≤ m) : Th S q m d := by
  induction hm with
  | refl => exact h
  | step _ ih => exact ih.up
theorem Th.kind {S : Store} {q : Nat → Prop} : ∀ {k : Nat} {d : D}, Th S q k d → ∃ kd, kindD d S = some kd
  | _, .non, _ => ⟨_, rfl⟩
  | _, .bl _, _ => ⟨_, rfl⟩
  | _, .int _, _ => ⟨_, rfl⟩
  | _, .str _, _ => ⟨_, rfl⟩
  | _, .tup _, _ => ⟨_, rfl⟩
  | k + 1, .loc n, h => by
    obtain ⟨_, ds, h2, _⟩ := h
    exact ⟨.lst, loc_kind (.inl h2)⟩
theorem Th.known {S : Store} {q : Nat → Prop} {k : Nat} {d : D} (h : Th S q k d) : knownS d S = true := by
  obtain ⟨kd, hk⟩ := h.kind
  unfold knownS Pf.known
  rw [hk]
  cases d with
  | tup ds =>
    cases k with
    | zero => exact False.elim h
    | succ k =>
      have h1 : (ds.all fun x => (kindD x S).isSome) = true := List.all_eq_true.mpr fun x hx => by
        obtain ⟨kx, e⟩ := (h.2 x hx).kind
        rw [e]; rfl
      show ((true && (ds.all fun x => (kindD x S).isSome)) && decide (ds.length ≤ 1000)) = true
      rw [h1, decide_eq_true (by have := h.1; omega)]; rfl
  | _ => rfl
/-! ### shown -/
def bk : Nat → Nat
  | 0 => 1
  | k + 1 => 7 * (bk k + 1)
theorem bk_pos : ∀ k, 1 ≤ bk k
  | 0 => Nat.le_refl _
  | k + 1 => by show 1 ≤ 7 * (bk k + 1); omega
theorem Rp.non : Rp 0 0 .none := ⟨by simp [PyData.showable], by simp [PyData.hasDict], by simp [PyData.depth], by simp [PyData.leavesShort], by simp [PyData.bulk]⟩
theorem Rp.bool (b : Bool) : Rp 0 0 (.bool b) := ⟨by simp [PyData.showable], by simp [PyData.hasDict], by simp [PyData.depth], by simp [PyData.leavesShort], by simp [PyData.bulk]⟩
theorem Rp.str {x : Str} (h : x = "" ∨ x = "1") : Rp 0 1 (.str x) := by
  rcases h with rfl | rfl
  · exact ⟨by decide +kernel, by decide +kernel, by decide +kernel, by decide +kernel, by decide +kernel⟩
  · exact ⟨by decide +kernel, by decide +kernel, by decide +kernel, by decide +kernel, by decide +kernel⟩
theorem toP_all {S : Store} {m k b : Nat} : ∀ ds : List D, (∀ d ∈ ds, ∃ p, toP S m d = some p ∧ Rp k b p) → ∃ ps, mapO (toP S m) ds = some ps ∧ RpA k (ds.length * (b + 1)) ps
  | [], _ => ⟨[], rfl, RpA.nil.up (Nat.zero_le _) (Nat.zero_le _)⟩
  | d :: ds, h => by
    obtain ⟨p, e1, h1⟩ := h d List.mem_cons_self
    obtain ⟨ps, e2, h2⟩ := toP_all ds fun x hx => h x (List.mem_cons_of_mem _ hx)
    refine ⟨p :: ps, ?_, (RpA.cons h1 h2).up (Nat.le_refl _) ?_⟩
    · show (toP S m d).bind _ = _
      rw [e1]
      show (mapO (toP S m) ds).map _ = _
      rw [e2]; rfl
    · rw [List.length_cons, Nat.succ_mul]; omega
theorem Th.shown {S : Store} {q : Nat → Prop} : ∀ {k m : Nat} {d : D}, Th S q k d → k < m → ∃ p, toP S m d = some p ∧ Rp k (bk k) p
  | k, m + 1, .non, _, _ => ⟨_, rfl, Rp.non.up (Nat.zero_le _) (Nat.zero_le _)⟩
  | k, m + 1, .bl b, _, _ => ⟨_, rfl, (Rp.bool b).up (Nat.zero_le _) (Nat.zero_le _)⟩
  | k, m + 1, .int i, h, _ => ⟨_, rfl, (Rp.int (Nat.lt_trans (by cases k <;> exact h) (Nat.pow_lt_pow_right (by decide) (by decide)))).up (Nat.zero_le _) (Nat.zero_le _)⟩
  | k, m + 1, .str x, h, _ => ⟨_, rfl, (Rp.str (by cases k <;> exact h)).up (Nat.zero_le _) (bk_pos k)⟩
  | k + 1, m + 1, .tup ds, h, hm => by
    obtain ⟨ps, e, r⟩ := toP_all (S := S) (m := m) (k := k) (b := bk k) ds fun d hd => Th.shown (h.2 d hd) (by omega)
    refine ⟨.tuple ps, ?_, (Rp.tup r).up (Nat.le_refl _) (Nat.mul_le_mul_right _ h.1)⟩
    show (mapO (toP S m) ds).map _ = _
    rw [e]; rfl
  | k + 1, m + 1, .loc n, h, hm => by
    obtain ⟨_, ds, h2, h3, h4⟩ := h
    obtain ⟨ps, e, r⟩ := toP_all (S := S) (m := m) (k := k) (b := bk k) ds fun d hd => Th.shown (h4 d hd) (by omega)
    refine ⟨.list ps, ?_, (Rp.lst r).up (Nat.le_refl _) (Nat.mul_le_mul_right _ h3)⟩
    show (match S[n]? with
      | some (Cell.lst ds) => (mapO (toP S m) ds).map PyData.list
      | some (Cell.ro ds) => (mapO (toP S m) ds).map PyData.list
      | _ => none) = _
    rw [h2]
    show (mapO (toP S m) ds).map _ = _
    rw [e]; rfl
theorem mapO_mono {α β : Type} {f g : α → Option β} (h : ∀ x y, f x = some y → g x = some y) : ∀ (xs : List α) (ys : List β), mapO f xs = some ys → mapO g xs = some ys
  | [], _, e => e
  | x :: xs, ys, e => by
    obtain ⟨y, e1, e⟩ := Option.bind_eq_some_iff.mp (show (f x).bind _ = some ys from e)
    obtain ⟨zs', e2, e⟩ := Option.map_eq_some_iff.mp e
    subst e
    show (g x).bind _ = _
    rw [h x y e1]
    show (mapO g xs).map _ = _
    rw [mapO_mono h xs zs' e2]; rfl
theorem toP_app {S U : Store} : ∀ (m : Nat) (d : D) (p : PyData), toP S m d = some p → toP (S ++ U) m d = some p
  | 0, _, _, e => by cases e
  | m + 1, d, p, e => by
    cases d with
    | tup ds =>
      obtain ⟨ps, e1, e⟩ := Option.map_eq_some_iff.mp (show (mapO (toP S m) ds).map PyData.tuple = some p from e)
      subst e
      show (mapO (toP (S ++ U) m) ds).map _ = _
      rw [mapO_mono (fun x y => toP_app m x y) ds ps e1]; rfl
    | loc n =>
      have e : (match S[n]? with
        | some (Cell.lst ds) => (mapO (toP S m) ds).map PyData.list
        | some (Cell.ro ds) => (mapO (toP S m) ds).map PyData.list
        | _ => none) = some p := e
      show (match (S ++ U)[n]? with
        | some (Cell.lst ds) => (mapO (toP (S ++ U) m) ds).map PyData.list
        | some (Cell.ro ds) => (mapO (toP (S ++ U) m) ds).map PyData.list
        | _ => none) = some p
      cases hs : S[n]? with
      | none => rw [hs] at e; cases e
      | some c =>
        have hs' : (S ++ U)[n]? = some c := by rw [List.getElem?_append_left (List.getElem?_eq_some_iff.mp hs).1]; exact hs
        rw [hs] at e
        rw [hs']
        cases c with
        | dk _ => cases e
        | dt _ => cases e
        | lst ds =>
          obtain ⟨ps, e1, e⟩ := Option.map_eq_some_iff.mp (show (mapO (toP S m) ds).map PyData.list = some p from e)
          subst e
          show (mapO (toP (S ++ U) m) ds).map _ = _
          rw [mapO_mono (fun x y => toP_app m x y) ds ps e1]; rfl
        | ro ds =>
          obtain ⟨ps, e1, e⟩ := Option.map_eq_some_iff.mp (show (mapO (toP S m) ds).map PyData.list = some p from e)
          subst e
          show (mapO (toP (S ++ U) m) ds).map _ = _
          rw [mapO_mono (fun x y => toP_app m x y) ds ps e1]; rfl
    | _ => exact e
theorem Th.repr {S : Store} {q : Nat → Prop} {k : Nat} {d : D} (h : Th S q k d) (hk : k ≤ 4) : ∃ s, ∀ U, fRepr [d] (S ++ U) = some (.str s, S ++ U) := by
  obtain ⟨p, e, r⟩ := (h.le hk).shown (m := 8) (by decide)
  refine ⟨p.shown, fun U => ?_⟩
  show (toP (S ++ U) 8 d).bind _ = _
  rw [toP_app 8 d p e]
  exact if_pos (r.ok (by decide) (by decide))
theorem repr_bls {S : Store} {n : Nat} {a b : Bool} (h : S[n]? = some (Cell.lst [.bl a, .bl b])) : fRepr [.loc n] S = some (.str (PyData.list [.bool a, .bool b]).shown, S) := by
  have e : toP S 8 (.loc n) = some (.list [.bool a, .bool b]) := by
    unfold toP
    dsimp only
    rw [h]; rfl
  show (toP S 8 (.loc n)).bind _ = _
  rw [e]
  exact if_pos ((Rp.lst (RpA.cons (Rp.bool a) (RpA.cons (Rp.bool b) (RpA.nil.up (Nat.le_refl _) (Nat.le_refl _))))).ok (by decide) (by decide))
/-! ### one thing looked at -/
noncomputable def m_law_right : Sv := sSeq (sSet 1 (evF fRepr (eaCons (evVar 0) (eaNil)))) (sSeq (sSet 2 (evLst (eaCons (evF f_is_poly (eaCons (evVar 0) (eaNil))) (eaCons (evF f_is_fraction (eaCons (evVar 0) (eaNil))) (eaNil))))) (sSeq (sSet 3 (evLst (eaCons (evF f_law_poly_due (eaCons (evVar 0) (eaNil))) (eaCons (evF f_law_fraction_due (eaCons (evVar 0) (eaNil))) (eaNil))))) (sRet (evAndV (ev2 oEq (evF fRepr (eaCons (evVar 2) (eaNil))) (evF fRepr (eaCons (evVar 3) (eaNil)))) (ev2 oEq (evF fRepr (eaCons (evVar 0) (eaNil))) (evVar 1))))))
abbrev NR : List Str := ["_law_thing", "_law_handed", "_law_found", "_law_due"]
def P_right : List D → Store → D → Store → Prop := fun ds S d S' => ds.length = 1 ∧ d = .bl true ∧ S' = S
noncomputable def f_law_right : Fn := fSem m_law_right NR P_right
theorem spec_right {S : Store} {q : Nat → Prop} {k : Nat} {d : D} (h : Th S q k d) (hk : k ≤ 4) : f_law_right [d] S = some (.bl true, S) := by
  obtain ⟨s, hs⟩ := h.repr hk
  have hs0 := hs []
  rw [List.append_nil] at hs0
  have mono : ∀ U, Th (S ++ U) q k d := fun U => h.mono fun n c _ e => by rw [List.getElem?_append_left (List.getElem?_eq_some_iff.mp e).1]; exact e
  have p1 : f_is_poly [d] S = some (.bl (isPoly d), S) := f_is_poly_of (knownS_known h.known)
  have p2 : f_is_fraction [d] S = some (.bl (isFrac d), S) := f_is_fraction_of (knownS_known h.known)
  have p3 : ∀ U, f_law_poly_due [d] (S ++ U) = some (.bl (isPoly d), S ++ U) := fun U => if_pos (mono U).known
  have p4 : ∀ U, f_law_fraction_due [d] (S ++ U) = some (.bl (isFrac d), S ++ U) := fun U => if_pos (mono U).known
  have q1 : sSet 1 (evF fRepr (eaCons (evVar 0) (eaNil))) [some d, none, none, none] S = some (.nx [some d, some (.str s), none, none] S) := sSet_of (evF_of (ea1 rfl) hs0)
  have q2 : sSet 2 (evLst (eaCons (evF f_is_poly (eaCons (evVar 0) (eaNil))) (eaCons (evF f_is_fraction (eaCons (evVar 0) (eaNil))) (eaNil)))) [some d, some (.str s), none, none] S = some (.nx [some d, some (.str s), some (.loc S.length), none] (S ++ [.lst [.bl (isPoly d), .bl (isFrac d)]])) :=
    sSet_of (evLst_of (ea2 (evF_of (ea1 rfl) p1) (evF_of (ea1 rfl) p2)) (by show 2 ≤ 1000; decide))
  have q3 : sSet 3 (evLst (eaCons (evF f_law_poly_due (eaCons (evVar 0) (eaNil))) (eaCons (evF f_law_fraction_due (eaCons (evVar 0) (eaNil))) (eaNil)))) [some d, some (.str s), some (.loc S.length), none] (S ++ [.lst [.bl (isPoly d), .bl (isFrac d)]]) = some (.nx [some d, some (.str s), some (.loc S.length), some (.loc (S.length + 1))] (S ++ [.lst [.bl (isPoly d), .bl (isFrac d)], .lst [.bl (isPoly d), .bl (isFrac d)]])) := by
    refine (sSet_of (evLst_of (ea2 (evF_of (ea1 rfl) (p3 _)) (evF_of (ea1 rfl) (p4 _))) (by show 2 ≤ 1000; decide))).trans ?_
    rw [List.append_assoc, List.length_append]; rfl
  have g0 : (S ++ [Cell.lst [.bl (isPoly d), .bl (isFrac d)], Cell.lst [.bl (isPoly d), .bl (isFrac d)]])[S.length]? = some (Cell.lst [.bl (isPoly d), .bl (isFrac d)]) := getK 0
  have g1 : (S ++ [Cell.lst [.bl (isPoly d), .bl (isFrac d)], Cell.lst [.bl (isPoly d), .bl (isFrac d)]])[S.length + 1]? = some (Cell.lst [.bl (isPoly d), .bl (isFrac d)]) := getK 1
  have q4 : sRet (evAndV (ev2 oEq (evF fRepr (eaCons (evVar 2) (eaNil))) (evF fRepr (eaCons (evVar 3) (eaNil)))) (ev2 oEq (evF fRepr (eaCons (evVar 0) (eaNil))) (evVar 1))) [some d, some (.str s), some (.loc S.length), some (.loc (S.length + 1))] (S ++ [.lst [.bl (isPoly d), .bl (isFrac d)], .lst [.bl (isPoly d), .bl (isFrac d)]]) = some (.rt (.bl true) (S ++ [.lst [.bl (isPoly d), .bl (isFrac d)], .lst [.bl (isPoly d), .bl (isFrac d)]])) :=
    sRet_of ((evAndV_t (ev2_of (evF_of (ea1 rfl) (repr_bls g0)) (evF_of (ea1 rfl) (repr_bls g1)) (eq_str _ _))).trans (ev2_of (evF_of (ea1 rfl) (hs _)) rfl (eq_str _ _)))
  have sm : Sem m_law_right NR [d] S (.bl true) S := Sem.dropA (U := [.lst [.bl (isPoly d), .bl (isFrac d)], .lst [.bl (isPoly d), .bl (isFrac d)]]) ((sSeq_nx q1).trans ((sSeq_nx q2).trans ((sSeq_nx q3).trans q4))) rfl
  obtain ⟨d', S', e, _, rfl, rfl⟩ := fSem_ex (P := P_right) sm ⟨rfl, rfl, rfl⟩
  exact e
end Pf
set_option maxHeartbeats 1000000
namespace Pf
open PySem L2 Q2
theorem pickD {ms : List D} {r : Int} (h0 : 0 ≤ r) (h1 : r < ms.length) : ∃ x, x ∈ ms ∧ L2.atI ms r = some x := by
  obtain ⟨k, rfl⟩ := Int.eq_ofNat_of_zero_le h0
  have hk : k < ms.length := by omega
  exact ⟨ms[k], List.getElem_mem hk, atI_nat (List.getElem?_eq_getElem hk)⟩
theorem setW {S U : Store} {n : Nat} {c : Cell} (h : n < S.length) : (S ++ U).set n c = S.set n c ++ U := List.set_append_left _ _ h
theorem getW {S U : Store} {n : Nat} {c : Cell} (h : S[n]? = some c) : (S ++ U)[n]? = some c := by
  rw [List.getElem?_append_left (List.getElem?_eq_some_iff.mp h).1]; exact h
/-- a draw over a store that has grown -/
theorem take_over {S U : Store} {n : Nat} {a b c m : Int} (h : S[n]? = some (C3 a b c)) (hm : 0 < m) (hm2 : m < 2 ^ 64) (hb : 0 ≤ b) (hb2 : b < 2 ^ 60) : ∃ r c', f_law_take [.loc n, .int m] (S ++ U) = some (.int r, S.set n (C3 a (b + 1) c') ++ U) ∧ 0 ≤ r ∧ r < m := by
  obtain ⟨r, c', e, h0, h1⟩ := spec_take (S := S ++ U) (getW h) hm hm2 hb hb2
  rw [setW (List.getElem?_eq_some_iff.mp h).1] at e
  exact ⟨r, c', e, h0, h1⟩
/-! ### a number drawn -/
noncomputable def m_law_number : Sv := sSeq (sSet 1 (evLst (eaCons (evC (.int 0)) (eaCons (evC (.int 1)) (eaCons (ev1 oNeg (evC (.int 1))) (eaCons (evC (.int 2)) (eaCons (ev1 oNeg (evC (.int 3))) (eaCons (evC (.int 6)) (eaCons (evC (.int 35)) (eaCons (ev1 oNeg (ev2 oPow (evC (.int 10)) (evC (.int 39)))) (eaCons (ev2 oSub (evC (.int 1)) (ev2 oPow (evC (.int 10)) (evC (.int 40)))) (eaCons (evC (.int 12)) (eaNil))))))))))))) (sRet (ev2 oIx (evVar 1) (evF f_law_take (eaCons (evVar 0) (eaCons (evC (.int 10)) (eaNil))))))
def numsN : List Int := [0, 1, -1, 2, -3, 6, 35, -(10 ^ (39 : Int).toNat), 1 - 10 ^ (40 : Int).toNat, 12]
theorem numsN_bd : Bd (2 ^ 140) numsN := by unfold Bd numsN; decide
theorem neg39 : ev1 oNeg (ev2 oPow (evC (.int 10)) (evC (.int 39))) = evC (.int (-(10 ^ (39 : Int).toNat))) := by
  funext σ S
  show ((oPow (.int 10) (.int 39) S).bind fun p => oNeg p.1 p.2) = _
  rw [oPow_ints ⟨by decide, by decide, by decide⟩]; rfl
theorem one40 : ev2 oSub (evC (.int 1)) (ev2 oPow (evC (.int 10)) (evC (.int 40))) = evC (.int (1 - 10 ^ (40 : Int).toNat)) := by
  funext σ S
  show ((oPow (.int 10) (.int 40) S).bind fun p => oSub (.int 1) p.1 p.2) = _
  rw [oPow_ints ⟨by decide, by decide, by decide⟩]; rfl
def P_num : List D → Store → D → Store → Prop := fun ds S d S' => ds.length = 1 ∧ ∃ n a b c i c', ds = [.loc n] ∧ S[n]? = some (C3 a b c) ∧ d = .int i ∧ i.natAbs < 2 ^ 140 ∧ S' = S.set n (C3 a (b + 1) c')
noncomputable def f_law_number : Fn := fSem m_law_number ["_law_feed_here", "_law_menu"] P_num
theorem spec_number {S : Store} {n : Nat} {a b c : Int} (h : S[n]? = some (C3 a b c)) (hb : 0 ≤ b) (hb2 : b < 2 ^ 60) : ∃ i c', f_law_number [.loc n] S = some (.int i, S.set n (C3 a (b + 1) c')) ∧ i.natAbs < 2 ^ 140 := by
  obtain ⟨r, c', e, h0, h1⟩ := take_over (U := [.lst (zs numsN)]) (m := 10) h (by decide) (by decide) hb hb2
  obtain ⟨x, hx, ex⟩ := pick (ms := numsN) h0 (by exact h1)
  have a1 : sSet 1 (evLst (eaCons (evC (.int 0)) (eaCons (evC (.int 1)) (eaCons (ev1 oNeg (evC (.int 1))) (eaCons (evC (.int 2)) (eaCons (ev1 oNeg (evC (.int 3))) (eaCons (evC (.int 6)) (eaCons (evC (.int 35)) (eaCons (ev1 oNeg (ev2 oPow (evC (.int 10)) (evC (.int 39)))) (eaCons (ev2 oSub (evC (.int 1)) (ev2 oPow (evC (.int 10)) (evC (.int 40)))) (eaCons (evC (.int 12)) (eaNil)))))))))))) (startD ["_law_feed_here", "_law_menu"] [.loc n]) S = some (.nx [some (.loc n), some (.loc S.length)] (S ++ [.lst (zs numsN)])) := by
    rw [neg39, one40]; rfl
  have a2 : sRet (ev2 oIx (evVar 1) (evF f_law_take (eaCons (evVar 0) (eaCons (evC (.int 10)) (eaNil))))) [some (.loc n), some (.loc S.length)] (S ++ [.lst (zs numsN)]) = some (.rt (.int x) (S.set n (C3 a (b + 1) c') ++ [.lst (zs numsN)])) := by
    refine sRet_of (ev2_of rfl (evF_of (ea2 rfl rfl) e) ?_)
    refine (oIx_loc (.inl (getU1 (by rw [List.length_set])))).trans ?_
    rw [ex]; rfl
  have sm := Sem.drop ((sSeq_nx a1).trans a2) rfl (keepsW rfl)
  rw [takeW] at sm
  obtain ⟨d, S', e', _, n', a', b', c2, i, c'', z1, z2, rfl, z3, rfl⟩ := fSem_ex (P := P_num) sm ⟨rfl, n, a, b, c, x, c', rfl, h, rfl, numsN_bd x hx, rfl⟩
  cases z1
  rw [h] at z2
  cases z2
  exact ⟨i, c'', e', z3⟩
/-! ### an odd thing drawn -/
noncomputable def m_law_odd : Sv := sSeq (sSet 1 (evLst (eaCons (evC (.bl true)) (eaCons (evC (.bl false)) (eaCons (evC .non) (eaCons (evC (.str "1")) (eaCons (evC (.str "")) (eaCons (evTup (eaNil)) (eaCons (evTup (eaCons (evC (.int 1)) (eaNil))) (eaCons (evLst (eaCons (evC (.int 1)) (eaNil))) (eaCons (evLst (eaNil)) (eaCons (evTup (eaCons (evC (.int 0)) (eaNil))) (eaCons (evC (.int 0)) (eaCons (ev1 oNeg (evC (.int 1))) (eaNil))))))))))))))) (sRet (ev2 oIx (evVar 1) (evF f_law_take (eaCons (evVar 0) (eaCons (evC (.int 12)) (eaNil))))))
def P_odd : List D → Store → D → Store → Prop := fun ds S d S' => ds.length = 1 ∧ ∃ n a b c c' U, ds = [.loc n] ∧ S[n]? = some (C3 a b c) ∧ S' = S.set n (C3 a (b + 1) c') ++ U ∧ ∀ q : Nat → Prop, (∀ x, q x → x < S.length) → Th S' q 1 d
noncomputable def f_law_odd : Fn := fSem m_law_odd ["_law_feed_here", "_law_menu"] P_odd
abbrev odds (k : Nat) : List D := [.bl true, .bl false, .non, .str "1", .str "", .tup [], .tup [.int 1], .loc k, .loc (k + 1), .tup [.int 0], .int 0, .int (-1)]
theorem odds_th {S : Store} {q : Nat → Prop} {k : Nat} (h1 : S[k]? = some (.lst [.int 1])) (h2 : S[k + 1]? = some (.lst [])) (hq : ∀ x, q x → x < k) : ∀ d ∈ odds k, Th S q 1 d := by
  intro d hd
  simp only [List.mem_cons, List.not_mem_nil, or_false] at hd
  have one : ∀ d ∈ [D.int 1], Th S q 0 d := fun d hd => by
    rw [List.mem_singleton] at hd; subst hd; show (1 : Int).natAbs < 2 ^ 140; decide
  have nul : ∀ d ∈ [D.int 0], Th S q 0 d := fun d hd => by
    rw [List.mem_singleton] at hd; subst hd; show (0 : Int).natAbs < 2 ^ 140; decide
  rcases hd with rfl | rfl | rfl | rfl | rfl | rfl | rfl | rfl | rfl | rfl | rfl | rfl
  · trivial
  · trivial
  · trivial
  · exact .inr rfl
  · exact .inl rfl
  · exact ⟨by decide, fun d h => nomatch h⟩
  · exact ⟨by show 1 ≤ 7; decide, one⟩
  · exact ⟨fun z => by have := hq _ z; omega, _, h1, by show 1 ≤ 7; decide, one⟩
  · exact ⟨fun z => by have := hq _ z; omega, _, h2, by show 0 ≤ 7; decide, fun d h => nomatch h⟩
  · exact ⟨by show 1 ≤ 7; decide, nul⟩
  · show (0 : Int).natAbs < 2 ^ 140; decide
  · show (-1 : Int).natAbs < 2 ^ 140; decide
theorem spec_odd {S : Store} {n : Nat} {a b c : Int} (h : S[n]? = some (C3 a b c)) (hb : 0 ≤ b) (hb2 : b < 2 ^ 60) : ∃ d c' U, f_law_odd [.loc n] S = some (d, S.set n (C3 a (b + 1) c') ++ U) ∧ ∀ q : Nat → Prop, (∀ x, q x → x < S.length) → Th (S.set n (C3 a (b + 1) c') ++ U) q 1 d := by
  have hn := (List.getElem?_eq_some_iff.mp h).1
  obtain ⟨r, c', e, h0, h1⟩ := take_over (U := [.lst [.int 1], .lst [], .lst (odds S.length)]) (m := 12) h (by decide) (by decide) hb hb2
  obtain ⟨x, hx, ex⟩ := pickD (ms := odds S.length) h0 (by exact h1)
  have a1 : sSet 1 (evLst (eaCons (evC (.bl true)) (eaCons (evC (.bl false)) (eaCons (evC .non) (eaCons (evC (.str "1")) (eaCons (evC (.str "")) (eaCons (evTup (eaNil)) (eaCons (evTup (eaCons (evC (.int 1)) (eaNil))) (eaCons (evLst (eaCons (evC (.int 1)) (eaNil))) (eaCons (evLst (eaNil)) (eaCons (evTup (eaCons (evC (.int 0)) (eaNil))) (eaCons (evC (.int 0)) (eaCons (ev1 oNeg (evC (.int 1))) (eaNil)))))))))))))) (startD ["_law_feed_here", "_law_menu"] [.loc n]) S = some (.nx [some (.loc n), some (.loc (S.length + 2))] (S ++ [.lst [.int 1], .lst [], .lst (odds S.length)])) := by
    have z : ∀ T : Store, evLst (eaCons (evC (.bl true)) (eaCons (evC (.bl false)) (eaCons (evC .non) (eaCons (evC (.str "1")) (eaCons (evC (.str "")) (eaCons (evTup (eaNil)) (eaCons (evTup (eaCons (evC (.int 1)) (eaNil))) (eaCons (evLst (eaCons (evC (.int 1)) (eaNil))) (eaCons (evLst (eaNil)) (eaCons (evTup (eaCons (evC (.int 0)) (eaNil))) (eaCons (evC (.int 0)) (eaCons (ev1 oNeg (evC (.int 1))) (eaNil))))))))))))) [some (.loc n), none] S = some (.loc (S ++ [Cell.lst [D.int 1]] ++ [Cell.lst []]).length, S ++ [Cell.lst [D.int 1]] ++ [Cell.lst []] ++ [.lst [.bl true, .bl false, .non, .str "1", .str "", .tup [], .tup [.int 1], .loc S.length, .loc (S ++ [Cell.lst [D.int 1]]).length, .tup [.int 0], .int 0, .int (-1)]]) := fun _ => rfl
    have y1 : (S ++ [Cell.lst [D.int 1]]).length = S.length + 1 := by simp
    have y2 : (S ++ [Cell.lst [D.int 1]] ++ [Cell.lst []]).length = S.length + 2 := by simp
    refine (sSet_of (z [])).trans ?_
    rw [y2, y1, List.append_assoc, List.append_assoc]; rfl
  have hl : (S.set n (C3 a (b + 1) c')).length = S.length := List.length_set ..
  have g : ∀ k, (S.set n (C3 a (b + 1) c') ++ [Cell.lst [.int 1], Cell.lst [], Cell.lst (odds S.length)])[S.length + k]? = ([Cell.lst [.int 1], Cell.lst [], Cell.lst (odds S.length)] : Store)[k]? := fun k => by rw [← hl]; exact getK k
  have a2 : sRet (ev2 oIx (evVar 1) (evF f_law_take (eaCons (evVar 0) (eaCons (evC (.int 12)) (eaNil))))) [some (.loc n), some (.loc (S.length + 2))] (S ++ [.lst [.int 1], .lst [], .lst (odds S.length)]) = some (.rt x (S.set n (C3 a (b + 1) c') ++ [.lst [.int 1], .lst [], .lst (odds S.length)])) := by
    refine sRet_of (ev2_of rfl (evF_of (ea2 rfl rfl) e) ?_)
    refine (oIx_loc (.inl (g 2))).trans ?_
    rw [ex]; rfl
  have th : ∀ q : Nat → Prop, (∀ x, q x → x < S.length) → Th (S.set n (C3 a (b + 1) c') ++ [.lst [.int 1], .lst [], .lst (odds S.length)]) q 1 x := fun q hq => odds_th (g 0) (g 1) hq x hx
  obtain ⟨d, S', e', _, n', a', b', c2, c'', U, z1, z2, rfl, z3⟩ := fSem_ex (P := P_odd) (Sem.rt ((sSeq_nx a1).trans a2)) ⟨rfl, n, a, b, c, c', _, rfl, h, rfl, th⟩
  cases z1
  rw [h] at z2
  cases z2
  exact ⟨d, c'', U, e', z3⟩
end Pf
set_option maxHeartbeats 1000000
namespace Pf
open PySem L2 Q2
theorem th_set {S U : Store} {q : Nat → Prop} {n k : Nat} {c : Cell} {d : D} (hq : q n) (h : Th S q k d) : Th (S.set n c ++ U) q k d := h.mono fun m c' hm e => by
  have e' : (S.set n c)[m]? = some c' := by
    have ne : n ≠ m := fun z => by subst z; exact hm hq
    rw [List.getElem?_set_ne ne]; exact e
  exact getW e'
theorem cut_drop (xs : List D) (k : Nat) : cutD xs (some (k : Int)) none = xs.drop k := by
  unfold cutD
  rw [HT.sIx_none, HT.sIx_nat]
  by_cases h : k ≤ xs.length
  · rw [Nat.min_eq_left h]
    exact List.take_of_length_le (by rw [List.length_drop]; omega)
  · rw [Nat.min_eq_right (by omega), List.drop_eq_nil_of_le (Nat.le_refl _), List.drop_eq_nil_of_le (by omega)]; exact List.take_nil
theorem oAdd2_tup {xs ys : List D} {S : Store} (h : xs.length + ys.length ≤ 1000) : oAdd2 (.tup xs) (.tup ys) S = some (.tup (xs ++ ys), S) := by
  cases xs with
  | nil => rfl
  | cons x xs =>
    rw [List.length_cons] at h
    exact if_pos (show xs.length + ys.length ≤ 100000 by omega)
theorem evSl_tup {m : Ev} {ml mh : EvO} {σ S xs S1 lo S2 hi S3} (h1 : m σ S = some (.tup xs, S1)) (h2 : ml σ S1 = some (lo, S2)) (h3 : mh σ S2 = some (hi, S3)) : evSl m ml mh σ S = some (.tup (cutD xs lo hi), S3) := by
  unfold evSl
  rw [h1]
  show (ml σ S1).bind _ = _
  rw [h2]
  show (mh σ S2).bind _ = _
  rw [h3]; rfl
theorem eoS_of {m : Ev} {σ S i S1} (h : m σ S = some (.int i, S1)) : eoS m σ S = some (some i, S1) := by
  unfold eoS; rw [h]; rfl
noncomputable def m_law_bent : Sv := sSeq (sSet 2 (evF f_law_take (eaCons (evVar 0) (eaCons (ev2 oAdd (evF fLen (eaCons (evVar 1) (eaNil))) (evC (.int 1))) (eaNil))))) (sSeq (sSet 3 (evF f_law_take (eaCons (evVar 0) (eaCons (evC (.int 5)) (eaNil))))) (sSeq (sIf (evB (ev2 oEq (evVar 3) (evC (.int 0)))) (sRet (ev2 oIx (evLst (eaCons (evF fList (eaCons (evVar 1) (eaNil))) (eaCons (ev1 oRev (evVar 1)) (eaCons (ev2 oAdd2 (evVar 1) (evTup (eaCons (evC (.int 0)) (eaNil)))) (eaCons (evTup (eaCons (evVar 1) (eaNil))) (eaCons (evSl (evVar 1) (eoS (evC (.int 1))) (eoN)) (eaNil))))))) (evF f_law_take (eaCons (evVar 0) (eaCons (evC (.int 5)) (eaNil)))))) (sSkip)) (sSeq (sIf (evB (ev2 oLt (evVar 3) (evC (.int 3)))) (sRet (ev2 oAdd2 (ev2 oAdd2 (evSl (evVar 1) (eoN) (eoS (evVar 2))) (evTup (eaCons (evF f_law_odd (eaCons (evVar 0) (eaNil))) (eaNil)))) (evSl (evVar 1) (eoS (ev2 oSub (ev2 oAdd (evVar 2) (evVar 3)) (evC (.int 1)))) (eoN)))) (sSkip)) (sRet (ev2 oAdd2 (ev2 oAdd2 (evSl (evVar 1) (eoN) (eoS (evVar 2))) (evTup (eaCons (evF f_law_number (eaCons (evVar 0) (eaNil))) (eaNil)))) (evSl (evVar 1) (eoS (ev2 oSub (ev2 oAdd (evVar 2) (evVar 3)) (evC (.int 3)))) (eoN)))))))
abbrev NB : List Str := ["_law_feed_here", "_law_row", "_law_at", "_law_way"]
def P_bent : List D → Store → D → Store → Prop := fun ds S d S' => ds.length = 2 ∧ ∃ n row a b c b' c' U, ds = [.loc n, .tup row] ∧ S[n]? = some (C3 a b c) ∧ S' = S.set n (C3 a b' c') ++ U ∧ b ≤ b' ∧ b' ≤ b + 4 ∧ (∀ (q : Nat → Prop) j, (∀ x, q x → x < S.length) → q n → 1 ≤ j → (∀ x ∈ row, Th S q j x) → Th S' q (j + 2) d) ∧ ∀ ds', d = .tup ds' → ds'.length ≤ row.length + 1
noncomputable def f_law_bent : Fn := fSem m_law_bent NB P_bent
theorem ends_th {S : Store} {q : Nat → Prop} {j k w : Nat} {row : List D} {d : D} (hl : row.length ≤ 6) (ht : ∀ x ∈ row, Th S q j x) (hd : Th S q j d) (hk : k ≤ row.length) : Th S q (j + 2) (.tup (row.take k ++ [d] ++ row.drop (k + w))) := by
  refine Th.up ⟨?_, fun x hx => ?_⟩
  · simp only [List.length_append, List.length_take, List.length_drop, List.length_singleton]; omega
  · rcases List.mem_append.mp hx with hx | hx
    · rcases List.mem_append.mp hx with hx | hx
      · exact ht x (List.mem_of_mem_take hx)
      · rw [List.mem_singleton] at hx; subst hx; exact hd
    · exact ht x (List.mem_of_mem_drop hx)
theorem ends_len {k w : Nat} {row : List D} {d : D} (hk : k ≤ row.length) : ∀ ds', D.tup (row.take k ++ [d] ++ row.drop (k + w)) = .tup ds' → ds'.length ≤ row.length + 1 := by
  intro ds' e
  cases e
  simp only [List.length_append, List.length_take, List.length_drop, List.length_singleton]; omega
theorem spec_bent {S : Store} {n : Nat} {a b c : Int} {row : List D} (h : S[n]? = some (C3 a b c)) (hb : 0 ≤ b) (hb2 : b < 2 ^ 50) (hl : row.length ≤ 6) :
    ∃ d b' c' U, f_law_bent [.loc n, .tup row] S = some (d, S.set n (C3 a b' c') ++ U) ∧ b ≤ b' ∧ b' ≤ b + 4 ∧ (∀ (q : Nat → Prop) j, (∀ x, q x → x < S.length) → q n → 1 ≤ j → (∀ x ∈ row, Th S q j x) → Th (S.set n (C3 a b' c') ++ U) q (j + 2) d) ∧ ∀ ds', d = .tup ds' → ds'.length ≤ row.length + 1 := by
  have hn := (List.getElem?_eq_some_iff.mp h).1
  have fin : ∀ {d : D} {b' c' : Int} {U : Store}, m_law_bent (startD NB [.loc n, .tup row]) S = some (.rt d (S.set n (C3 a b' c') ++ U)) → b ≤ b' → b' ≤ b + 4 → (∀ (q : Nat → Prop) j, (∀ x, q x → x < S.length) → q n → 1 ≤ j → (∀ x ∈ row, Th S q j x) → Th (S.set n (C3 a b' c') ++ U) q (j + 2) d) → (∀ ds', d = .tup ds' → ds'.length ≤ row.length + 1) →
      ∃ d b' c' U, f_law_bent [.loc n, .tup row] S = some (d, S.set n (C3 a b' c') ++ U) ∧ b ≤ b' ∧ b' ≤ b + 4 ∧ (∀ (q : Nat → Prop) j, (∀ x, q x → x < S.length) → q n → 1 ≤ j → (∀ x ∈ row, Th S q j x) → Th (S.set n (C3 a b' c') ++ U) q (j + 2) d) ∧ ∀ ds', d = .tup ds' → ds'.length ≤ row.length + 1 := fun e h1 h2 h3 h4 => by
    obtain ⟨d', S', e', _, n', row', a', b1, c1, b2, c2, U2, z1, z2, rfl, z3, z4, z5, z6⟩ := fSem_ex (P := P_bent) (Sem.rt e) ⟨rfl, n, row, a, b, c, _, _, _, rfl, h, rfl, h1, h2, h3, h4⟩
    cases z1
    rw [h] at z2
    cases z2
    exact ⟨d', b2, c2, U2, e', z3, z4, z5, z6⟩
  obtain ⟨r1, c1, e1, r10, r11⟩ := spec_take (m := (row.length : Int) + 1) h (by omega) (by omega) hb (by omega)
  obtain ⟨k, rfl⟩ := Int.eq_ofNat_of_zero_le r10
  have hk : k ≤ row.length := by omega
  have h1 : (S.set n (C3 a (b + 1) c1))[n]? = some (C3 a (b + 1) c1) := get_set h
  obtain ⟨r2, c2, e2, r20, r21⟩ := spec_take (m := 5) h1 (by decide) (by decide) (by omega) (by omega)
  rw [List.set_set] at e2
  have h2 : (S.set n (C3 a (b + 1 + 1) c2))[n]? = some (C3 a (b + 1 + 1) c2) := get_set h
  have b0 : sSet 2 (evF f_law_take (eaCons (evVar 0) (eaCons (ev2 oAdd (evF fLen (eaCons (evVar 1) (eaNil))) (evC (.int 1))) (eaNil)))) (startD NB [.loc n, .tup row]) S = some (.nx [some (.loc n), some (.tup row), some (.int (k : Nat)), none] (S.set n (C3 a (b + 1) c1))) :=
    sSet_of (evF_of (ea2 rfl (ev2_of (evF_of (ea1 rfl) (show fLen [.tup row] S = some (.int row.length, S) from rfl)) rfl rfl)) e1)
  have b1 : sSet 3 (evF f_law_take (eaCons (evVar 0) (eaCons (evC (.int 5)) (eaNil)))) [some (.loc n), some (.tup row), some (.int (k : Nat)), none] (S.set n (C3 a (b + 1) c1)) = some (.nx [some (.loc n), some (.tup row), some (.int (k : Nat)), some (.int r2)] (S.set n (C3 a (b + 1 + 1) c2))) :=
    sSet_of (evF_of (ea2 rfl rfl) e2)
  generalize hT : S.set n (C3 a (b + 1 + 1) c2) = T at *
  have hTl : T.length = S.length := by rw [← hT]; exact List.length_set ..
  have tt : ∀ {X : Cell}, T.set n X = S.set n X := fun {X} => by rw [← hT, List.set_set]
  have t0 : evB (ev2 oEq (evVar 3) (evC (.int 0))) [some (.loc n), some (.tup row), some (.int (k : Nat)), some (.int r2)] T = some (decide (r2 = 0), T) := rfl
  have t3 : evB (ev2 oLt (evVar 3) (evC (.int 3))) [some (.loc n), some (.tup row), some (.int (k : Nat)), some (.int r2)] T = some (decide (r2 < 3), T) := rfl
  by_cases w0 : r2 = 0
  · rw [decide_eq_true w0] at t0
    obtain ⟨r3, c3, e3, r30, r31⟩ := take_over (U := [.lst row, .lst [.loc T.length, .tup row.reverse, .tup (row ++ [.int 0]), .tup [.tup row], .tup (row.drop 1)]]) (m := 5) h2 (by decide) (by decide) (by omega) (by omega)
    rw [tt] at e3
    obtain ⟨x, hx, ex⟩ := pickD (ms := [.loc T.length, .tup row.reverse, .tup (row ++ [.int 0]), .tup [.tup row], .tup (row.drop 1)]) r30 (by exact r31)
    have ls : evLst (eaCons (evF fList (eaCons (evVar 1) (eaNil))) (eaCons (ev1 oRev (evVar 1)) (eaCons (ev2 oAdd2 (evVar 1) (evTup (eaCons (evC (.int 0)) (eaNil)))) (eaCons (evTup (eaCons (evVar 1) (eaNil))) (eaCons (evSl (evVar 1) (eoS (evC (.int 1))) (eoN)) (eaNil)))))) [some (.loc n), some (.tup row), some (.int (k : Nat)), some (.int r2)] T = some (.loc (T.length + 1), T ++ [.lst row, .lst [.loc T.length, .tup row.reverse, .tup (row ++ [.int 0]), .tup [.tup row], .tup (row.drop 1)]]) := by
      have s5 := evSl_tup (m := evVar 1) (ml := eoS (evC (.int 1))) (mh := eoN) (σ := [some (.loc n), some (.tup row), some (.int (k : Nat)), some (.int r2)]) (S := T ++ [.lst row]) rfl (eoS_of (i := ((1 : Nat) : Int)) rfl) rfl
      rw [cut_drop] at s5
      refine (evLst_of (ea5 (evF_of (ea1 rfl) (show fList [.tup row] T = some (.loc T.length, T ++ [.lst row]) from rfl)) (show ev1 oRev (evVar 1) _ _ = some (.tup row.reverse, _) from rfl) (ev2_of rfl rfl (oAdd2_tup (by show row.length + 1 ≤ 1000; omega))) (evTup_of (ea1 rfl) (by show 1 ≤ 1000; decide)) s5) (by show 5 ≤ 1000; decide)).trans ?_
      rw [List.append_assoc, List.length_append]; rfl
    have b2 : sIf (evB (ev2 oEq (evVar 3) (evC (.int 0)))) (sRet (ev2 oIx (evLst (eaCons (evF fList (eaCons (evVar 1) (eaNil))) (eaCons (ev1 oRev (evVar 1)) (eaCons (ev2 oAdd2 (evVar 1) (evTup (eaCons (evC (.int 0)) (eaNil)))) (eaCons (evTup (eaCons (evVar 1) (eaNil))) (eaCons (evSl (evVar 1) (eoS (evC (.int 1))) (eoN)) (eaNil))))))) (evF f_law_take (eaCons (evVar 0) (eaCons (evC (.int 5)) (eaNil)))))) (sSkip) [some (.loc n), some (.tup row), some (.int (k : Nat)), some (.int r2)] T = some (.rt x (S.set n (C3 a (b + 1 + 1 + 1) c3) ++ [.lst row, .lst [.loc T.length, .tup row.reverse, .tup (row ++ [.int 0]), .tup [.tup row], .tup (row.drop 1)]])) := by
      refine (sIf_t t0).trans (sRet_of (ev2_of ls (evF_of (ea2 rfl rfl) e3) ?_))
      have hg : (S.set n (C3 a (b + 1 + 1 + 1) c3) ++ [Cell.lst row, Cell.lst [.loc T.length, .tup row.reverse, .tup (row ++ [.int 0]), .tup [.tup row], .tup (row.drop 1)]])[T.length + 1]? = some (Cell.lst [.loc T.length, .tup row.reverse, .tup (row ++ [.int 0]), .tup [.tup row], .tup (row.drop 1)]) := by
        rw [hTl]
        have := getK (S := S.set n (C3 a (b + 1 + 1 + 1) c3)) (U := [Cell.lst row, Cell.lst [.loc S.length, .tup row.reverse, .tup (row ++ [.int 0]), .tup [.tup row], .tup (row.drop 1)]]) 1
        rw [List.length_set] at this
        exact this
      refine (oIx_loc (.inl hg)).trans ?_
      rw [ex]; rfl
    refine fin ((sSeq_nx b0).trans ((sSeq_nx b1).trans (sSeq_rt b2))) (by omega) (by omega) (fun q j hq qn hj ht => ?_) (fun ds' hd => ?_)
    · have ht' : ∀ y ∈ row, Th (S.set n (C3 a (b + 1 + 1 + 1) c3) ++ [.lst row, .lst [.loc T.length, .tup row.reverse, .tup (row ++ [.int 0]), .tup [.tup row], .tup (row.drop 1)]]) q j y := fun y hy => th_set qn (ht y hy)
      have hz : (S.set n (C3 a (b + 1 + 1 + 1) c3) ++ [Cell.lst row, Cell.lst [.loc T.length, .tup row.reverse, .tup (row ++ [.int 0]), .tup [.tup row], .tup (row.drop 1)]])[T.length]? = some (Cell.lst row) := by
        rw [hTl]
        have := getK (S := S.set n (C3 a (b + 1 + 1 + 1) c3)) (U := [Cell.lst row, Cell.lst [.loc S.length, .tup row.reverse, .tup (row ++ [.int 0]), .tup [.tup row], .tup (row.drop 1)]]) 0
        rw [List.length_set] at this
        exact this
      simp only [List.mem_cons, List.not_mem_nil, or_false] at hx
      rcases hx with rfl | rfl | rfl | rfl | rfl
      · exact Th.up ⟨fun z => by have := hq _ z; omega, row, hz, by omega, ht'⟩
      · exact Th.up ⟨by rw [List.length_reverse]; omega, fun y hy => ht' y (List.mem_reverse.mp hy)⟩
      · refine Th.up ⟨by rw [List.length_append]; show row.length + 1 ≤ 7; omega, fun y hy => ?_⟩
        rcases List.mem_append.mp hy with hy | hy
        · exact ht' y hy
        · rw [List.mem_singleton] at hy; subst hy
          cases j <;> (show (0 : Int).natAbs < 2 ^ 140; decide)
      · refine ⟨by show 1 ≤ 7; decide, fun y hy => ?_⟩
        rw [List.mem_singleton] at hy; subst hy
        exact ⟨by omega, ht'⟩
      · exact Th.up ⟨by rw [List.length_drop]; omega, fun y hy => ht' y (List.mem_of_mem_drop hy)⟩
    · simp only [List.mem_cons, List.not_mem_nil, or_false] at hx
      rcases hx with rfl | rfl | rfl | rfl | rfl
      · cases hd
      · cases hd; rw [List.length_reverse]; omega
      · cases hd; rw [List.length_append]; exact Nat.le_refl _
      · cases hd; show 1 ≤ row.length + 1; omega
      · cases hd; rw [List.length_drop]; omega
  · rw [decide_eq_false w0] at t0
    have pre : ∀ T', evSl (evVar 1) (eoN) (eoS (evVar 2)) [some (.loc n), some (.tup row), some (.int (k : Nat)), some (.int r2)] T' = some (.tup (row.take k), T') := fun T' => by
      have s := evSl_tup (m := evVar 1) (ml := eoN) (mh := eoS (evVar 2)) (σ := [some (.loc n), some (.tup row), some (.int (k : Nat)), some (.int r2)]) (S := T') rfl rfl (eoS_of (i := (k : Nat)) rfl)
      rw [cut_take _ k hk] at s
      exact s
    have h50 : ∀ (o w : Nat) (z : Int), r2 - z = (w : Int) → ∀ T', evSl (evVar 1) (eoS (ev2 oSub (ev2 oAdd (evVar 2) (evVar 3)) (evC (.int z)))) (eoN) [some (.loc n), some (.tup row), some (.int (k : Nat)), some (.int r2)] T' = some (.tup (row.drop (k + w)), T') := fun _ w z hz T' => by
      have ei : ev2 oSub (ev2 oAdd (evVar 2) (evVar 3)) (evC (.int z)) [some (.loc n), some (.tup row), some (.int (k : Nat)), some (.int r2)] T' = some (.int ((k + w : Nat) : Int), T') := by
        show some (D.int ((k : Int) + r2 - z), T') = _
        rw [show (k : Int) + r2 - z = ((k + w : Nat) : Int) by omega]
      have s := evSl_tup (m := evVar 1) (ml := eoS (ev2 oSub (ev2 oAdd (evVar 2) (evVar 3)) (evC (.int z)))) (mh := eoN) (σ := [some (.loc n), some (.tup row), some (.int (k : Nat)), some (.int r2)]) (S := T') rfl (eoS_of ei) rfl
      rw [cut_drop] at s
      exact s
    have glue : ∀ (d : D) (w : Nat) (T' : Store), oAdd2 (.tup (row.take k ++ [d])) (.tup (row.drop (k + w))) T' = some (.tup (row.take k ++ [d] ++ row.drop (k + w)), T') := fun d w T' => oAdd2_tup (by simp only [List.length_append, List.length_take, List.length_drop, List.length_singleton]; omega)
    have glue1 : ∀ (d : D) (T' : Store), oAdd2 (.tup (row.take k)) (.tup [d]) T' = some (.tup (row.take k ++ [d]), T') := fun d T' => oAdd2_tup (by simp only [List.length_take, List.length_singleton]; omega)
    have b2 : sIf (evB (ev2 oEq (evVar 3) (evC (.int 0)))) (sRet (ev2 oIx (evLst (eaCons (evF fList (eaCons (evVar 1) (eaNil))) (eaCons (ev1 oRev (evVar 1)) (eaCons (ev2 oAdd2 (evVar 1) (evTup (eaCons (evC (.int 0)) (eaNil)))) (eaCons (evTup (eaCons (evVar 1) (eaNil))) (eaCons (evSl (evVar 1) (eoS (evC (.int 1))) (eoN)) (eaNil))))))) (evF f_law_take (eaCons (evVar 0) (eaCons (evC (.int 5)) (eaNil)))))) (sSkip) [some (.loc n), some (.tup row), some (.int (k : Nat)), some (.int r2)] T = some (.nx [some (.loc n), some (.tup row), some (.int (k : Nat)), some (.int r2)] T) := (sIf_f t0).trans rfl
    by_cases w3 : r2 < 3
    · rw [decide_eq_true w3] at t3
      obtain ⟨w, hw⟩ : ∃ w : Nat, r2 - 1 = (w : Int) := ⟨(r2 - 1).toNat, by omega⟩
      obtain ⟨d, c3, U, e3, th⟩ := spec_odd h2 (by omega) (by omega)
      rw [tt] at e3 th
      refine fin (d := .tup (row.take k ++ [d] ++ row.drop (k + w))) ((sSeq_nx b0).trans ((sSeq_nx b1).trans ((sSeq_nx b2).trans (sSeq_rt ((sIf_t t3).trans (sRet_of (ev2_of (ev2_of (pre _) (evTup_of (ea1 (evF_of (ea1 rfl) e3)) (by show 1 ≤ 1000; decide)) (glue1 d _)) (h50 0 w 1 hw _) (glue d w _)))))))) (by omega) (by omega) (fun q j hq qn hj ht => ?_) (ends_len hk)
      exact ends_th hl (fun y hy => th_set qn (ht y hy)) ((th q (by rw [hTl]; exact hq)).le hj) hk
    · rw [decide_eq_false w3] at t3
      obtain ⟨w, hw⟩ : ∃ w : Nat, r2 - 3 = (w : Int) := ⟨(r2 - 3).toNat, by omega⟩
      obtain ⟨i, c3, e3, hi⟩ := spec_number h2 (by omega) (by omega)
      rw [tt] at e3
      have e3 : f_law_number [.loc n] T = some (.int i, S.set n (C3 a (b + 1 + 1 + 1) c3) ++ []) := by rw [List.append_nil]; exact e3
      refine fin (d := .tup (row.take k ++ [.int i] ++ row.drop (k + w))) ((sSeq_nx b0).trans ((sSeq_nx b1).trans ((sSeq_nx b2).trans ((sSeq_nx ((sIf_f t3).trans rfl)).trans (sRet_of (ev2_of (ev2_of (pre _) (evTup_of (ea1 (evF_of (ea1 rfl) e3)) (by show 1 ≤ 1000; decide)) (glue1 (.int i) _)) (h50 0 w 3 hw _) (glue (.int i) w _))))))) (by omega) (by omega) (fun q j hq qn hj ht => ?_) (ends_len hk)
      exact ends_th hl (fun y hy => th_set qn (ht y hy)) (by cases j <;> exact hi) hk
end Pf
set_option maxHeartbeats 1000000
namespace Pf
open PySem L2 Q2
/-! ### data in the store, the feed's cell aside -/
/-- texts that may stand there -/
structure Tx (x : Str) : Prop where
  rp : Rp 0 8 (.str x)
  lay : PyData.canLay0 (.str x) = true
mutual
inductive Dat (S : Store) (q : Nat → Prop) (B : Nat) : D → PyData → Prop
  | non : Dat S q B .non .none
  | bl (b : Bool) : Dat S q B (.bl b) (.bool b)
  | int {i : Int} : i.natAbs ≤ B → Dat S q B (.int i) (.int i)
  | str {x : Str} : Tx x → Dat S q B (.str x) (.str x)
  | tup {ds : List D} {ps : List PyData} : DatL S q B ds ps → Dat S q B (.tup ds) (.tuple ps)
  | loc {n : Nat} {ds : List D} {ps : List PyData} : ¬ q n → S[n]? = some (Cell.lst ds) → DatL S q B ds ps → Dat S q B (.loc n) (.list ps)
inductive DatL (S : Store) (q : Nat → Prop) (B : Nat) : List D → List PyData → Prop
  | nil : DatL S q B [] []
  | cons {d : D} {p : PyData} {ds : List D} {ps : List PyData} : Dat S q B d p → DatL S q B ds ps → DatL S q B (d :: ds) (p :: ps)
end
/-- the cells that were there, but for the feed's, are as they were -/
structure Sm (fl : Nat) (S S' : Store) : Prop where
  len : S.length ≤ S'.length
  same : ∀ i, i ≠ fl → i < S.length → S'[i]? = S[i]?
theorem Sm.refl {fl : Nat} {S : Store} : Sm fl S S := ⟨Nat.le_refl _, fun _ _ _ => rfl⟩
theorem Sm.trans {fl : Nat} {S S1 S2 : Store} (a : Sm fl S S1) (b : Sm fl S1 S2) : Sm fl S S2 := ⟨Nat.le_trans a.len b.len, fun i h hl => (b.same i h (Nat.lt_of_lt_of_le hl a.len)).trans (a.same i h hl)⟩
theorem Sm.app {fl : Nat} {S U : Store} : Sm fl S (S ++ U) := ⟨by simp, fun i _ hl => List.getElem?_append_left hl⟩
theorem Sm.get {fl : Nat} {S S' : Store} (a : Sm fl S S') {i : Nat} {c : Cell} (hi : i ≠ fl) (h : S[i]? = some c) : S'[i]? = some c := (a.same i hi (List.getElem?_eq_some_iff.mp h).1).trans h
theorem Sm.ok {fl : Nat} {S S' : Store} {q : Nat → Prop} (a : Sm fl S S') (hq : q fl) : ∀ i c, ¬ q i → S[i]? = some c → S'[i]? = some c := fun i c h e => a.get (fun z => h (z ▸ hq)) e
theorem app_ok {S U : Store} {q : Nat → Prop} : ∀ i c, ¬ q i → S[i]? = some c → (S ++ U)[i]? = some c := fun i c _ e => getW e
theorem set_ok {S : Store} {q : Nat → Prop} {n : Nat} {c' : Cell} (hq : q n) : ∀ i c, ¬ q i → S[i]? = some c → (S.set n c')[i]? = some c := fun i c h e => by
  have ne : n ≠ i := fun z => by subst z; exact h hq
  rw [List.getElem?_set_ne ne]; exact e
mutual
theorem Dat.mono {q : Nat → Prop} {B : Nat} {S S' : Store} (a : ∀ i c, ¬ q i → S[i]? = some c → S'[i]? = some c) : ∀ {d : D} {p : PyData}, Dat S q B d p → Dat S' q B d p
  | _, _, .non => .non
  | _, _, .bl b => .bl b
  | _, _, .int h => .int h
  | _, _, .str h => .str h
  | _, _, .tup h => .tup (DatL.mono a h)
  | _, _, .loc h1 h2 h3 => .loc h1 (a _ _ h1 h2) (DatL.mono a h3)
theorem DatL.mono {q : Nat → Prop} {B : Nat} {S S' : Store} (a : ∀ i c, ¬ q i → S[i]? = some c → S'[i]? = some c) : ∀ {d : List D} {p : List PyData}, DatL S q B d p → DatL S' q B d p
  | _, _, .nil => .nil
  | _, _, .cons h t => .cons (Dat.mono a h) (DatL.mono a t)
end
mutual
theorem Dat.toP {q : Nat → Prop} {B : Nat} {S : Store} : ∀ {d : D} {p : PyData} (k : Nat), Dat S q B d p → p.depth < k → Q2.toP S k d = some p
  | _, _, 0, _, h => by omega
  | _, _, _ + 1, .non, _ => rfl
  | _, _, _ + 1, .bl b, _ => rfl
  | _, _, _ + 1, .int i, _ => rfl
  | _, _, _ + 1, .str x, _ => rfl
  | _, _, k + 1, .tup (ds := ds) (ps := ps) h, hk => by
    show (mapO (Q2.toP S k) ds).map PyData.tuple = _
    rw [DatL.toP k h (by simp only [PyData.depth] at hk; omega)]; rfl
  | _, _, k + 1, .loc (n := n) (ds := ds) (ps := ps) h1 h2 h3, hk => by
    show (match S[n]? with
      | some (Cell.lst ds) => (mapO (Q2.toP S k) ds).map PyData.list
      | some (Cell.ro ds) => (mapO (Q2.toP S k) ds).map PyData.list
      | _ => none) = _
    rw [h2]
    show (mapO (Q2.toP S k) ds).map PyData.list = _
    rw [DatL.toP k h3 (by simp only [PyData.depth] at hk; omega)]; rfl
theorem DatL.toP {q : Nat → Prop} {B : Nat} {S : Store} : ∀ {ds : List D} {ps : List PyData} (k : Nat), DatL S q B ds ps → PyData.depthAll ps < k → mapO (Q2.toP S k) ds = some ps
  | _, _, _, .nil, _ => rfl
  | _, _, k, .cons (d := d) (p := p) (ds := ds) (ps := ps) h t, hk => by
    simp only [PyData.depthAll] at hk
    show (Q2.toP S k d).bind (fun y => (mapO (Q2.toP S k) ds).map fun ys => y :: ys) = _
    rw [Dat.toP k h (by omega), DatL.toP k t (by omega)]; rfl
end
theorem DatL.length {S : Store} {q : Nat → Prop} {B : Nat} : ∀ {ds : List D} {ps : List PyData}, DatL S q B ds ps → ds.length = ps.length
  | _, _, .nil => rfl
  | _, _, .cons _ t => by rw [List.length_cons, List.length_cons, DatL.length t]
theorem DatL.append {S : Store} {q : Nat → Prop} {B : Nat} : ∀ {ds es : List D} {ps qs : List PyData}, DatL S q B ds ps → DatL S q B es qs → DatL S q B (ds ++ es) (ps ++ qs)
  | _, _, _, _, .nil, s => s
  | _, _, _, _, .cons h t, s => .cons h (DatL.append t s)
theorem DatL.take {S : Store} {q : Nat → Prop} {B : Nat} : ∀ {ds : List D} {ps : List PyData} (n : Nat), DatL S q B ds ps → DatL S q B (ds.take n) (ps.take n)
  | _, _, 0, _ => .nil
  | _, _, _ + 1, .nil => .nil
  | _, _, n + 1, .cons h t => .cons h (DatL.take n t)
theorem DatL.drop {S : Store} {q : Nat → Prop} {B : Nat} : ∀ {ds : List D} {ps : List PyData} (n : Nat), DatL S q B ds ps → DatL S q B (ds.drop n) (ps.drop n)
  | _, _, 0, s => s
  | _, _, _ + 1, .nil => .nil
  | _, _, n + 1, .cons _ t => DatL.drop n t
theorem DatL.reverse {S : Store} {q : Nat → Prop} {B : Nat} : ∀ {ds : List D} {ps : List PyData}, DatL S q B ds ps → DatL S q B ds.reverse ps.reverse
  | _, _, .nil => .nil
  | _, _, .cons h t => by rw [List.reverse_cons, List.reverse_cons]; exact (DatL.reverse t).append (.cons h .nil)
theorem DatL.get {S : Store} {q : Nat → Prop} {B : Nat} : ∀ {ds : List D} {ps : List PyData} {i : Nat} {p : PyData}, DatL S q B ds ps → ps[i]? = some p → ∃ d, ds[i]? = some d ∧ Dat S q B d p
  | _, _, _, _, .nil, e => by simp at e
  | _, _, 0, _, .cons h _, e => by simp at e; subst e; exact ⟨_, rfl, h⟩
  | _, _, i + 1, x, .cons _ t, e => by
    obtain ⟨u, h1, h2⟩ := DatL.get (i := i) (p := x) t (by simpa using e)
    exact ⟨u, by simpa using h1, h2⟩
theorem DatL.mem {S : Store} {q : Nat → Prop} {B : Nat} : ∀ {ds : List D} {ps : List PyData} {d : D}, DatL S q B ds ps → d ∈ ds → ∃ p ∈ ps, Dat S q B d p
  | _, _, _, .cons h t, e => by
    rcases List.mem_cons.mp e with rfl | e
    · exact ⟨_, List.mem_cons_self, h⟩
    · obtain ⟨p, h1, h2⟩ := DatL.mem t e
      exact ⟨p, List.mem_cons_of_mem _ h1, h2⟩
theorem DatL.ints {S : Store} {q : Nat → Prop} {B : Nat} : ∀ {ns : List Int}, (∀ n ∈ ns, n.natAbs ≤ B) → DatL S q B (zs ns) (ns.map .int)
  | [], _ => .nil
  | n :: ns, h => .cons (.int (h n List.mem_cons_self)) (DatL.ints fun m hm => h m (List.mem_cons_of_mem _ hm))
theorem Dat.kind {S : Store} {q : Nat → Prop} {B : Nat} : ∀ {d : D} {p : PyData}, Dat S q B d p → ∃ k, kindD d S = some k
  | _, _, .non => ⟨_, rfl⟩
  | _, _, .bl b => ⟨_, rfl⟩
  | _, _, .int i => ⟨_, rfl⟩
  | _, _, .str x => ⟨_, rfl⟩
  | _, _, .tup h => ⟨_, rfl⟩
  | _, _, .loc h1 h2 h3 => ⟨.lst, loc_kind (.inl h2)⟩
theorem Dat.known {S : Store} {q : Nat → Prop} {B : Nat} {d : D} {p : PyData} (h : Dat S q B d p) : Pf.known d S = true := by
  obtain ⟨k, hk⟩ := h.kind
  unfold Pf.known
  rw [hk]
  cases h with
  | tup h =>
    refine List.all_eq_true.mpr fun x hx => ?_
    obtain ⟨p, _, q⟩ := h.mem hx
    obtain ⟨k, e⟩ := q.kind
    rw [e]; rfl
  | _ => rfl
mutual
theorem Dat.up {S : Store} {q : Nat → Prop} {B B' : Nat} (hB : B ≤ B') : ∀ {d : D} {p : PyData}, Dat S q B d p → Dat S q B' d p
  | _, _, .non => .non
  | _, _, .bl b => .bl b
  | _, _, .int h => .int (Nat.le_trans h hB)
  | _, _, .str h => .str h
  | _, _, .tup h => .tup (DatL.up hB h)
  | _, _, .loc h1 h2 h3 => .loc h1 h2 (DatL.up hB h3)
theorem DatL.up {S : Store} {q : Nat → Prop} {B B' : Nat} (hB : B ≤ B') : ∀ {d : List D} {p : List PyData}, DatL S q B d p → DatL S q B' d p
  | _, _, .nil => .nil
  | _, _, .cons h t => .cons (Dat.up hB h) (DatL.up hB t)
end
theorem Rp.self {k n : Nat} {p : PyData} (h : Rp k n p) : Rp p.depth p.bulk p := ⟨h.sh, h.nd, Nat.le_refl _, h.ls, Nat.le_refl _⟩
theorem RpA.self {k n : Nat} {p : List PyData} (h : RpA k n p) : RpA (PyData.depthAll p) (PyData.bulkAll p) p := ⟨h.sh, h.nd, Nat.le_refl _, h.ls, Nat.le_refl _⟩
mutual
theorem Dat.rp {S : Store} {q : Nat → Prop} {B : Nat} (hB : B < 2 ^ 1920) : ∀ {d : D} {p : PyData}, Dat S q B d p → Rp p.depth p.bulk p
  | _, _, .non => Rp.non.self
  | _, _, .bl b => (Rp.bool b).self
  | _, _, .int h => (Rp.int (Nat.lt_of_le_of_lt h hB)).self
  | _, _, .str h => h.rp.self
  | _, _, .tup h => (Rp.tup (DatL.rp hB h)).self
  | _, _, .loc h1 h2 h3 => (Rp.lst (DatL.rp hB h3)).self
theorem DatL.rp {S : Store} {q : Nat → Prop} {B : Nat} (hB : B < 2 ^ 1920) : ∀ {d : List D} {p : List PyData}, DatL S q B d p → RpA (PyData.depthAll p) (PyData.bulkAll p) p
  | _, _, .nil => RpA.nil.self
  | _, _, .cons h t => ((RpA.cons ((Dat.rp hB h).up (Nat.le_max_left _ _) (Nat.le_refl _)) ((DatL.rp hB t).up (Nat.le_max_right _ _) (Nat.le_refl _)))).self
end
mutual
theorem Dat.lay {S : Store} {q : Nat → Prop} {B : Nat} : ∀ {d : D} {p : PyData}, Dat S q B d p → p.canLay0 = true
  | _, _, .non => by simp [PyData.canLay0]
  | _, _, .bl b => by simp [PyData.canLay0]
  | _, _, .int h => by simp [PyData.canLay0]
  | _, _, .str h => h.lay
  | _, _, .tup h => by simp only [PyData.canLay0]; exact DatL.lay h
  | _, _, .loc h1 h2 h3 => by simp only [PyData.canLay0]; exact DatL.lay h3
theorem DatL.lay {S : Store} {q : Nat → Prop} {B : Nat} : ∀ {d : List D} {p : List PyData}, DatL S q B d p → PyData.canLayAll0 p = true
  | _, _, .nil => by simp [PyData.canLayAll0]
  | _, _, .cons h t => by simp only [PyData.canLayAll0, Bool.and_eq_true]; exact ⟨Dat.lay h, DatL.lay t⟩
end
theorem Dat.shaped {S : Store} {q : Nat → Prop} {B : Nat} {d : D} {p : PyData} (h : Dat S q B d p) (hd : p.depth ≤ 64) : SeqAt.shaped p = true := by
  unfold SeqAt.shaped
  rw [h.lay, decide_eq_true hd]; rfl
theorem Dat.repr {S : Store} {q : Nat → Prop} {B : Nat} {d : D} {p : PyData} (h : Dat S q B d p) (hB : B < 2 ^ 1920) (hk : p.depth ≤ 7) (hn : p.bulk ≤ 8000) : fRepr [d] S = some (.str p.shown, S) := by
  show (Q2.toP S 8 d).bind _ = _
  rw [h.toP 8 (by omega)]
  exact if_pos ((h.rp hB).ok (by omega) hn)
theorem len_bulk : ∀ ps : List PyData, ps.length ≤ PyData.bulkAll ps
  | [] => Nat.zero_le _
  | p :: ps => by simp only [PyData.bulkAll, List.length_cons]; have := len_bulk ps; omega
theorem bulk_append : ∀ ps qs : List PyData, PyData.bulkAll (ps ++ qs) = PyData.bulkAll ps + PyData.bulkAll qs
  | [], qs => by simp [PyData.bulkAll]
  | p :: ps, qs => by simp only [List.cons_append, PyData.bulkAll]; have := bulk_append ps qs; omega
theorem depth_append : ∀ ps qs : List PyData, PyData.depthAll (ps ++ qs) = max (PyData.depthAll ps) (PyData.depthAll qs)
  | [], qs => by simp [PyData.depthAll]
  | p :: ps, qs => by simp only [List.cons_append, PyData.depthAll]; have := depth_append ps qs; omega
theorem bulk_take (ps : List PyData) (n : Nat) : PyData.bulkAll (ps.take n) ≤ PyData.bulkAll ps := by
  have := bulk_append (ps.take n) (ps.drop n)
  rw [List.take_append_drop] at this; omega
theorem bulk_drop (ps : List PyData) (n : Nat) : PyData.bulkAll (ps.drop n) ≤ PyData.bulkAll ps := by
  have := bulk_append (ps.take n) (ps.drop n)
  rw [List.take_append_drop] at this; omega
theorem depth_take (ps : List PyData) (n : Nat) : PyData.depthAll (ps.take n) ≤ PyData.depthAll ps := by
  have := depth_append (ps.take n) (ps.drop n)
  rw [List.take_append_drop] at this; omega
theorem depth_drop (ps : List PyData) (n : Nat) : PyData.depthAll (ps.drop n) ≤ PyData.depthAll ps := by
  have := depth_append (ps.take n) (ps.drop n)
  rw [List.take_append_drop] at this; omega
theorem split_at {α : Type} {ps : List α} {i : Nat} {p : α} (h : ps[i]? = some p) : ps = ps.take i ++ p :: ps.drop (i + 1) := by
  obtain ⟨hl, rfl⟩ := List.getElem?_eq_some_iff.mp h
  rw [List.getElem_cons_drop, List.take_append_drop]
theorem bulk_rev : ∀ ps : List PyData, PyData.bulkAll ps.reverse = PyData.bulkAll ps
  | [] => rfl
  | p :: ps => by rw [List.reverse_cons, bulk_append, bulk_rev ps]; simp only [PyData.bulkAll]; omega
theorem depth_rev : ∀ ps : List PyData, PyData.depthAll ps.reverse = PyData.depthAll ps
  | [] => rfl
  | p :: ps => by rw [List.reverse_cons, depth_append, depth_rev ps]; simp only [PyData.depthAll]; omega
/-! ### the feed -/
abbrev FC (m : Nat) (b c : Int) : Cell := .lst [.loc m, .int b, .int c]
structure Fd (S : Store) (fl : Nat) : Prop where
  ex : ∃ m ns b c, m < fl ∧ S[fl]? = some (FC m b c) ∧ S[m]? = some (Cell.lst (zs ns))
theorem Fd.lt {S : Store} {fl : Nat} (h : Fd S fl) : fl < S.length := by
  obtain ⟨m, ns, b, c, _, h, _⟩ := h.ex
  exact (List.getElem?_eq_some_iff.mp h).1
theorem Fd.app {S U : Store} {fl : Nat} (h : Fd S fl) : Fd (S ++ U) fl := by
  obtain ⟨m, ns, b, c, h1, h2, h3⟩ := h.ex
  exact ⟨m, ns, b, c, h1, getW h2, getW h3⟩
theorem Fd.set {S : Store} {fl i : Nat} {c : Cell} (h : Fd S fl) (hi : fl < i) : Fd (S.set i c) fl := by
  obtain ⟨m, ns, b, c, h1, h2, h3⟩ := h.ex
  exact ⟨m, ns, b, c, h1, by rw [List.getElem?_set_ne (by omega)]; exact h2, by rw [List.getElem?_set_ne (by omega)]; exact h3⟩
/-- a step of the feed: the other cells stay, and it stays one -/
structure Stp (fl : Nat) (S S' : Store) : Prop extends Sm fl S S' where
  fd : Fd S' fl
theorem Stp.refl {fl : Nat} {S : Store} (h : Fd S fl) : Stp fl S S := ⟨Sm.refl, h⟩
theorem Stp.trans {fl : Nat} {S S1 S2 : Store} (a : Stp fl S S1) (b : Stp fl S1 S2) : Stp fl S S2 := ⟨a.toSm.trans b.toSm, b.fd⟩
theorem Stp.app {fl : Nat} {S U : Store} (h : Fd S fl) : Stp fl S (S ++ U) := ⟨Sm.app, h.app⟩
/-- a cell behind what was there is written -/
theorem Stp.wr {fl : Nat} {S S' : Store} {i : Nat} {c : Cell} (a : Stp fl S S') (hf : fl < i) (hi : S.length ≤ i) : Stp fl S (S'.set i c) :=
  ⟨⟨by rw [List.length_set]; exact a.len, fun j h hl => by rw [List.getElem?_set_ne (by omega)]; exact a.same j h hl⟩, a.fd.set hf⟩
theorem Stp.keeps {fl : Nat} {S S' : Store} (a : Sm fl S S') (h : S.length ≤ fl) : Keeps S S' := ⟨a.len, fun i hi => .inl (a.same i (by omega) hi)⟩
theorem keep_take {S S' : Store} (h : S.length ≤ S'.length) (hs : ∀ i, i < S.length → S'[i]? = S[i]?) : S'.take S.length = S := by
  refine List.ext_getElem? fun i => ?_
  by_cases hi : i < S.length
  · rw [List.getElem?_take_of_lt hi, hs i hi]
  · rw [List.getElem?_eq_none (by rw [List.length_take]; omega), List.getElem?_eq_none (by omega)]
end Pf
set_option maxHeartbeats 1000000
namespace Pw
open PySem L2 Q2 Pf
/-! ### the feed is made -/
noncomputable def m_law_feed : Sv := sRet (evLst (eaCons (evF fList (eaCons (evSl (evVar 0) (eoN) (eoS (evC (.int 63)))) (eaNil))) (eaCons (evC (.int 0)) (eaCons (evC (.int 0)) (eaNil)))))
def f_law_feed : Fn := fn1 fun d S => match d with
  | .loc n => (match S[n]? with
    | some (Cell.ro xs) => some (.loc (S.length + 2), S ++ [.lst (cutD xs none (some 63)), .lst (cutD xs none (some 63)), FC (S.length + 1) 0 0])
    | _ => none)
  | _ => none
theorem ar_law_feed : ∀ ds S r, f_law_feed ds S = some r → ds.length = 1 := fn1_len
theorem f_law_feed_of {S : Store} {n : Nat} {xs : List D} (h : S[n]? = some (Cell.ro xs)) : f_law_feed [.loc n] S = some (.loc (S.length + 2), S ++ [.lst (cutD xs none (some 63)), .lst (cutD xs none (some 63)), FC (S.length + 1) 0 0]) := by
  show (match S[n]? with
    | some (Cell.ro xs) => some (D.loc (S.length + 2), S ++ [Cell.lst (cutD xs none (some 63)), Cell.lst (cutD xs none (some 63)), FC (S.length + 1) 0 0])
    | _ => none) = _
  rw [h]
theorem sem_law_feed : ∀ ds S d S', f_law_feed ds S = some (d, S') → Sem m_law_feed ["_law_script"] ds S d S' := fun ds S d S' e => by
  obtain ⟨x, rfl, e⟩ := fn1_some e
  cases x with
  | loc n =>
    have e : (match S[n]? with
      | some (Cell.ro xs) => some (D.loc (S.length + 2), S ++ [Cell.lst (cutD xs none (some 63)), Cell.lst (cutD xs none (some 63)), FC (S.length + 1) 0 0])
      | _ => none) = some (d, S') := e
    cases hs : S[n]? with
    | none => rw [hs] at e; cases e
    | some c =>
      rw [hs] at e
      cases c with
      | dk _ => cases e
      | dt _ => cases e
      | lst xs => cases e
      | ro xs =>
        cases e
        have a1 : evSl (evVar 0) (eoN) (eoS (evC (.int 63))) [some (.loc n)] S = some (.loc S.length, S ++ [.lst (cutD xs none (some 63))]) := by
          show (lstD (.loc n) S).map _ = _
          rw [lstD_of (.inr hs)]; rfl
        have a2 : evF fList (eaCons (evSl (evVar 0) (eoN) (eoS (evC (.int 63)))) (eaNil)) [some (.loc n)] S = some (.loc (S.length + 1), S ++ [.lst (cutD xs none (some 63)), .lst (cutD xs none (some 63))]) := by
          refine evF_of (ea1 a1) ?_
          show (itemsD (.loc S.length) (S ++ [Cell.lst (cutD xs none (some 63))])).map _ = _
          rw [itemsD_of (.inl get_last)]
          show some (D.loc (S ++ [Cell.lst (cutD xs none (some 63))]).length, S ++ [Cell.lst (cutD xs none (some 63))] ++ [Cell.lst (cutD xs none (some 63))]) = _
          rw [List.length_append, List.append_assoc]; rfl
        refine Sem.rt (sRet_of ((evLst_of (ea3 a2 rfl rfl) (by show 3 ≤ 1000; decide)).trans ?_))
        rw [List.length_append, List.append_assoc]; rfl
  | _ => cases e
theorem spec_feed {S : Store} {n : Nat} {ns : List Int} (h : S[n]? = some (Cell.ro (zs ns))) : ∃ fl S', f_law_feed [.loc n] S = some (.loc fl, S') ∧ S.length ≤ fl ∧ Fd S' fl ∧ Sm fl S S' := by
  refine ⟨_, _, f_law_feed_of h, by omega, ?_, Sm.app⟩
  refine ⟨S.length + 1, ns.take (63 : Nat), 0, 0, by omega, getK 2, ?_⟩
  rw [getK 1]
  have : cutD (zs ns) none (some 63) = zs (ns.take 63) := by
    by_cases hl : 63 ≤ ns.length
    · rw [show ((63 : Int)) = ((63 : Nat) : Int) from rfl, cut_take _ _ (by rw [List.length_map]; exact hl)]
      exact (List.map_take ..).symm
    · have e1 : HT.sIx (zs ns).length (zs ns).length (some (63 : Int)) = (zs ns).length := by
        rw [List.length_map]
        unfold HT.sIx
        show (if (63 : Int) < 0 then ((63 : Int) + (ns.length : Int)).toNat else min (63 : Int).toNat ns.length) = ns.length
        rw [if_neg (by decide)]
        show min 63 ns.length = ns.length
        omega
      have e0 : HT.sIx (zs ns).length 0 none = 0 := rfl
      rw [cutD_whole ⟨e0, e1⟩, List.take_of_length_le (by omega)]
  show some (Cell.lst (cutD (zs ns) none (some 63))) = _
  rw [this]
/-! ### a number is drawn -/
noncomputable def m_law_draw : Sv := sSeq (sIf (evB (ev2 oGt (ev2 oIx (evVar 0) (evC (.int 2))) (evC (.int 0)))) (sSeq (sSet 2 (ev2 oMod (ev2 oIx (evVar 0) (evC (.int 2))) (evVar 1))) (sSeq (sPut (evVar 0) (evC (.int 2)) (ev2 oFdiv (ev2 oIx (evVar 0) (evC (.int 2))) (evVar 1))) (sRet (evVar 2)))) (sSkip)) (sSeq (sSet 3 (ev2 oIx (evVar 0) (evC (.int 1)))) (sSeq (sPut (evVar 0) (evC (.int 1)) (ev2 oAdd (evVar 3) (evC (.int 1)))) (sSeq (sSet 4 (ev2 oMul (evC (.int 7919)) (evVar 3))) (sSeq (sIf (evTGc (evB (ev2 oNe (ev2 oIx (evVar 0) (evC (.int 0))) (evLst (eaNil))))) (sSet 4 (ev2 oIx (ev2 oIx (evVar 0) (evC (.int 0))) (ev2 oMod (evVar 3) (evF fLen (eaCons (ev2 oIx (evVar 0) (evC (.int 0))) (eaNil)))))) (sSkip)) (sSeq (sIf (evAnd (evB (ev2 oGe (evVar 4) (ev2 oPow (evC (.int 10)) (evC (.int 18))))) (evB (ev2 oLt (evVar 3) (evF fLen (eaCons (ev2 oIx (evVar 0) (evC (.int 0))) (eaNil)))))) (sSeq (sPut (evVar 0) (evC (.int 2)) (ev2 oFdiv (evVar 4) (evVar 1))) (sRet (ev2 oMod (evVar 4) (evVar 1)))) (sSkip)) (sSeq (sSet 5 (ev2 oMod (ev2 oAdd (ev2 oAdd (ev2 oMod (evVar 4) (evC (.int 2147483647))) (ev2 oMul (evC (.int 40692)) (evVar 3))) (evC (.int 12345))) (evC (.int 2147483647)))) (sSeq (sSet 5 (ev2 oMod (ev2 oMul (evVar 5) (ev2 oAdd (evVar 5) (evC (.int 48271)))) (evC (.int 2147483587)))) (sRet (ev2 oMod (ev2 oFdiv (ev2 oMod (ev2 oAdd (ev2 oMul (evVar 5) (evC (.int 69621))) (evVar 3)) (evC (.int 2147483399))) (evC (.int 7))) (evVar 1))))))))))
abbrev ND : List Str := ["_law_feed_here", "_law_many", "_law_found", "_law_spot", "_law_cell", "_law_mixed"]
def P_draw : List D → Store → D → Store → Prop := fun ds S d S' => ds.length = 2 ∧ ∀ fl m, ds = [.loc fl, .int m] → ∃ r, d = .int r ∧ 0 ≤ r ∧ r < m ∧ S'.length = S.length ∧ Stp fl S S'
noncomputable def f_law_draw : Fn := fSem m_law_draw ND P_draw
theorem sem_law_draw : ∀ ds S d S', f_law_draw ds S = some (d, S') → Sem m_law_draw ND ds S d S' := fun _ _ _ _ e => (fSem_both e).1
theorem ar_law_draw : ∀ ds S r, f_law_draw ds S = some r → ds.length = 2 := fun _ _ _ e => (fSem_both e).2.1
theorem fc0 {S : Store} {n m : Nat} {b c : Int} (h : S[n]? = some (FC m b c)) : oIx (.loc n) (.int 0) S = some (.loc m, S) := (oIx_loc (.inl h)).trans rfl
theorem fc1 {S : Store} {n m : Nat} {b c : Int} (h : S[n]? = some (FC m b c)) : oIx (.loc n) (.int 1) S = some (.int b, S) := (oIx_loc (.inl h)).trans rfl
theorem fc2 {S : Store} {n m : Nat} {b c : Int} (h : S[n]? = some (FC m b c)) : oIx (.loc n) (.int 2) S = some (.int c, S) := (oIx_loc (.inl h)).trans rfl
theorem fp1 {S : Store} {n m : Nat} {b c v : Int} (h : S[n]? = some (FC m b c)) : putD (.loc n) (.int 1) (.int v) S = some (S.set n (FC m v c)) := putD_at (i := 1) h (by show 1 < 3; decide)
theorem fp2 {S : Store} {n m : Nat} {b c v : Int} (h : S[n]? = some (FC m b c)) : putD (.loc n) (.int 2) (.int v) S = some (S.set n (FC m b v)) := putD_at (i := 2) h (by show 2 < 3; decide)
theorem sPut_of {mo mi mv : Ev} {σ S v S1 o S2 i S3 S4} (h1 : mv σ S = some (v, S1)) (h2 : mo σ S1 = some (o, S2)) (h3 : mi σ S2 = some (i, S3)) (h4 : putD o i v S3 = some S4) : sPut mo mi mv σ S = some (.nx σ S4) := by
  unfold sPut; rw [h1]; show (mo σ S1).bind _ = _; rw [h2]; show (mi σ S2).bind _ = _; rw [h3]; show (putD o i v S3).map _ = _; rw [h4]; rfl
theorem evAnd_t {ta tb : EvT} {σ S S1} (h : ta σ S = some (true, S1)) : evAnd ta tb σ S = tb σ S1 := by
  unfold evAnd; rw [h]; rfl
theorem evAnd_f {ta tb : EvT} {σ S S1} (h : ta σ S = some (false, S1)) : evAnd ta tb σ S = some (false, S1) := by
  unfold evAnd; rw [h]; rfl
theorem ne_none {S : Store} {n : Nat} {ns : List Int} {m : Ev} {σ : Sg} (hm : m σ S = some (.loc n, S)) (h : S[n]? = some (Cell.lst (zs ns))) : evTGc (evB (ev2 oNe m (evLst (eaNil)))) σ S = some (decide (ns ≠ []), S) := by
  refine evTGc_app (U := [.lst []]) ?_
  have g1 : (S ++ [Cell.lst (zs [])])[n]? = some (Cell.lst (zs ns)) := getW h
  have g2 : (S ++ [Cell.lst (zs [])])[S.length]? = some (Cell.lst (zs [])) := get_last
  have e : eqD (.loc n) (.loc S.length) (S ++ [Cell.lst (zs [])]) = some (decide (ns = [])) := by
    show ((toP _ 8 (D.loc n)).bind fun p => (toP _ 8 (D.loc S.length)).bind fun q => _) = _
    rw [toP_lst g1, toP_lst g2]
    refine (if_pos ⟨shaped_list ns, shaped_list []⟩).trans ?_
    cases ns with
    | nil => simp [PyData.eqv, PyData.eqvAll]
    | cons m ms => simp [PyData.eqv, PyData.eqvAll]
  refine evB_of (ev2_of hm (evLst_of (show eaNil σ S = some ([], S) from rfl) (by show 0 ≤ 1000; decide)) ?_)
  show (eqD (.loc n) (.loc S.length) (S ++ [Cell.lst (zs [])])).map _ = _
  rw [e]
  show some (D.bl (!decide (ns = [])), _) = _
  congr 3
  by_cases h : ns = [] <;> simp [h]
theorem fd_set {S : Store} {fl m : Nat} {ns : List Int} {b c b' c' : Int} (h1 : m < fl) (h2 : S[fl]? = some (FC m b c)) (h3 : S[m]? = some (Cell.lst (zs ns))) : Stp fl S (S.set fl (FC m b' c')) :=
  ⟨⟨by rw [List.length_set]; exact Nat.le_refl _, fun i hi _ => List.getElem?_set_ne (fun z => hi z.symm)⟩, m, ns, b', c', h1, get_set h2, by rw [List.getElem?_set_ne (by omega)]; exact h3⟩
/-- the tail: a number of what was mixed -/
theorem draw_tail {T : Store} {u0 u2 : Option D} {b cell m : Int} (hm : 0 < m) : ∃ r, 0 ≤ r ∧ r < m ∧
    sSeq (sSet 5 (ev2 oMod (ev2 oAdd (ev2 oAdd (ev2 oMod (evVar 4) (evC (.int 2147483647))) (ev2 oMul (evC (.int 40692)) (evVar 3))) (evC (.int 12345))) (evC (.int 2147483647)))) (sSeq (sSet 5 (ev2 oMod (ev2 oMul (evVar 5) (ev2 oAdd (evVar 5) (evC (.int 48271)))) (evC (.int 2147483587)))) (sRet (ev2 oMod (ev2 oFdiv (ev2 oMod (ev2 oAdd (ev2 oMul (evVar 5) (evC (.int 69621))) (evVar 3)) (evC (.int 2147483399))) (evC (.int 7))) (evVar 1)))) [u0, some (.int m), u2, some (.int b), some (.int cell), none] T = some (.rt (.int r) T) := by
  have hmz : m ≠ 0 := by omega
  obtain ⟨x, hx⟩ : ∃ x, x = (cell.fmod 2147483647 + 40692 * b + 12345).fmod 2147483647 := ⟨_, rfl⟩
  have x0 : 0 ≤ x := by rw [hx]; exact Int.fmod_nonneg_of_pos _ (by decide)
  have x1 : x < 2147483647 := by rw [hx]; exact Int.fmod_lt_of_pos _ (by decide)
  obtain ⟨y, hy⟩ : ∃ y, y = (x * (x + 48271)).fmod 2147483587 := ⟨_, rfl⟩
  refine ⟨(((y * 69621 + b).fmod 2147483399).fdiv 7).fmod m, Int.fmod_nonneg_of_pos _ hm, Int.fmod_lt_of_pos _ hm, ?_⟩
  have s1 : sSet 5 (ev2 oMod (ev2 oAdd (ev2 oAdd (ev2 oMod (evVar 4) (evC (.int 2147483647))) (ev2 oMul (evC (.int 40692)) (evVar 3))) (evC (.int 12345))) (evC (.int 2147483647))) [u0, some (.int m), u2, some (.int b), some (.int cell), none] T = some (.nx [u0, some (.int m), u2, some (.int b), some (.int cell), some (.int x)] T) := by
    rw [hx]
    exact sSet_of (ev2_of (ev2_of (ev2_of (ev2_of rfl rfl (oMod_ints (by decide))) (ev2_of rfl rfl (oMul_ints (mulC_l (by decide)))) rfl) rfl rfl) rfl (oMod_ints (by decide)))
  have s2 : sSet 5 (ev2 oMod (ev2 oMul (evVar 5) (ev2 oAdd (evVar 5) (evC (.int 48271)))) (evC (.int 2147483587))) [u0, some (.int m), u2, some (.int b), some (.int cell), some (.int x)] T = some (.nx [u0, some (.int m), u2, some (.int b), some (.int cell), some (.int y)] T) := by
    rw [hy]
    exact sSet_of (ev2_of (ev2_of rfl (ev2_of rfl rfl rfl) (oMul_ints (mulC_l (by omega)))) rfl (oMod_ints (by decide)))
  refine (sSeq_nx s1).trans ((sSeq_nx s2).trans (sRet_of ?_))
  exact ev2_of (ev2_of (ev2_of (ev2_of (ev2_of rfl rfl (oMul_ints (mulC_r (by decide)))) rfl rfl) rfl (oMod_ints (by decide))) rfl (oFdiv_ints (divC_s (by decide) (by decide)))) rfl (oMod_ints hmz)
theorem run_draw {S : Store} {fl : Nat} {m : Int} (h : Fd S fl) (hm : 0 < m) (hm2 : m < 2 ^ 64) : ∃ r S', 0 ≤ r ∧ r < m ∧ S'.length = S.length ∧ Stp fl S S' ∧ m_law_draw (startD ND [.loc fl, .int m]) S = some (.rt (.int r) S') := by
  obtain ⟨q, ns, b, c, hq, hf, hs⟩ := h.ex
  have hmz : m ≠ 0 := by omega
  have dv : ∀ i, DivC i m := fun i => divC_s hmz (by omega)
  have t1 : evB (ev2 oGt (ev2 oIx (evVar 0) (evC (.int 2))) (evC (.int 0))) [some (.loc fl), some (.int m), none, none, none, none] S = some (decide (0 < c), S) := evB_of (ev2_of (ev2_of rfl rfl (fc2 hf)) rfl rfl)
  by_cases hc : 0 < c
  · refine ⟨c.fmod m, S.set fl (FC q b (c.fdiv m)), Int.fmod_nonneg_of_pos _ hm, Int.fmod_lt_of_pos _ hm, List.length_set .., fd_set hq hf hs, ?_⟩
    rw [decide_eq_true hc] at t1
    refine sSeq_rt ((sIf_t t1).trans ?_)
    refine (sSeq_nx (sSet_of (ev2_of (ev2_of rfl rfl (fc2 hf)) rfl (oMod_ints hmz)))).trans ((sSeq_nx (sPut_of (ev2_of (ev2_of rfl rfl (fc2 hf)) rfl (oFdiv_ints (dv _))) rfl rfl (fp2 hf))).trans rfl)
  · rw [decide_eq_false hc] at t1
    have hf1 : (S.set fl (FC q (b + 1) c))[fl]? = some (FC q (b + 1) c) := get_set hf
    have hs1 : (S.set fl (FC q (b + 1) c))[q]? = some (Cell.lst (zs ns)) := by rw [List.getElem?_set_ne (by omega)]; exact hs
    have hst := fd_set (b' := b + 1) (c' := c) hq hf hs
    have hle : (S.set fl (FC q (b + 1) c)).length = S.length := List.length_set ..
    have w1 : sSet 3 (ev2 oIx (evVar 0) (evC (.int 1))) [some (.loc fl), some (.int m), none, none, none, none] S = some (.nx [some (.loc fl), some (.int m), none, some (.int b), none, none] S) := sSet_of (ev2_of rfl rfl (fc1 hf))
    have w2 : sPut (evVar 0) (evC (.int 1)) (ev2 oAdd (evVar 3) (evC (.int 1))) [some (.loc fl), some (.int m), none, some (.int b), none, none] S = some (.nx [some (.loc fl), some (.int m), none, some (.int b), none, none] (S.set fl (FC q (b + 1) c))) := sPut_of (ev2_of rfl rfl rfl) rfl rfl (fp1 hf)
    generalize hT : S.set fl (FC q (b + 1) c) = T at *
    have w3 : sSet 4 (ev2 oMul (evC (.int 7919)) (evVar 3)) [some (.loc fl), some (.int m), none, some (.int b), none, none] T = some (.nx [some (.loc fl), some (.int m), none, some (.int b), some (.int (7919 * b)), none] T) := sSet_of (ev2_of rfl rfl (oMul_ints (mulC_l (by decide))))
    have l0 : ∀ u2 u3 u4 u5, evF fLen (eaCons (ev2 oIx (evVar 0) (evC (.int 0))) (eaNil)) [some (.loc fl), u2, u3, u4, u5, none] T = some (.int ns.length, T) := fun u2 u3 u4 u5 => by
      refine evF_of (ea1 (ev2_of rfl rfl (fc0 hf1))) ?_
      show oLen (.loc q) T = _
      rw [oLen_loc (.inl hs1), List.length_map]
    have w4 : ∃ cell, sIf (evTGc (evB (ev2 oNe (ev2 oIx (evVar 0) (evC (.int 0))) (evLst (eaNil))))) (sSet 4 (ev2 oIx (ev2 oIx (evVar 0) (evC (.int 0))) (ev2 oMod (evVar 3) (evF fLen (eaCons (ev2 oIx (evVar 0) (evC (.int 0))) (eaNil)))))) (sSkip) [some (.loc fl), some (.int m), none, some (.int b), some (.int (7919 * b)), none] T = some (.nx [some (.loc fl), some (.int m), none, some (.int b), some (.int cell), none] T) := by
      have tn := ne_none (m := ev2 oIx (evVar 0) (evC (.int 0))) (σ := [some (.loc fl), some (.int m), none, some (.int b), some (.int (7919 * b)), none]) (ev2_of rfl rfl (fc0 hf1)) hs1
      by_cases hn : ns = []
      · rw [decide_eq_false (fun z => z hn)] at tn
        exact ⟨_, (sIf_f tn).trans rfl⟩
      · rw [decide_eq_true hn] at tn
        have hl : 0 < ns.length := List.length_pos_iff.mpr hn
        have hlz : ((ns.length : Nat) : Int) ≠ 0 := by omega
        have e0 := Int.fmod_nonneg_of_pos b (b := ((ns.length : Nat) : Int)) (by omega)
        have e1 := Int.fmod_lt_of_pos b (b := ((ns.length : Nat) : Int)) (by omega)
        obtain ⟨x, _, hx⟩ := pick e0 e1
        refine ⟨x, (sIf_t tn).trans (sSet_of (ev2_of (ev2_of rfl rfl (fc0 hf1)) (ev2_of rfl (l0 _ _ _ _) (oMod_ints hlz)) ?_))⟩
        rw [oIx_loc (.inl hs1), hx]; rfl
    obtain ⟨cell, w4⟩ := w4
    have p18 : PowC 10 18 := ⟨by decide, by decide, by decide⟩
    have t2 : evB (ev2 oGe (evVar 4) (ev2 oPow (evC (.int 10)) (evC (.int 18)))) [some (.loc fl), some (.int m), none, some (.int b), some (.int cell), none] T = some (decide ((10 : Int) ^ (18 : Int).toNat ≤ cell), T) := evB_of (ev2_of rfl (ev2_of rfl rfl (oPow_ints p18)) rfl)
    have t3 : evB (ev2 oLt (evVar 3) (evF fLen (eaCons (ev2 oIx (evVar 0) (evC (.int 0))) (eaNil)))) [some (.loc fl), some (.int m), none, some (.int b), some (.int cell), none] T = some (decide (b < ns.length), T) := evB_of (ev2_of rfl (l0 _ _ _ _) rfl)
    have t4 : ∃ z, evAnd (evB (ev2 oGe (evVar 4) (ev2 oPow (evC (.int 10)) (evC (.int 18))))) (evB (ev2 oLt (evVar 3) (evF fLen (eaCons (ev2 oIx (evVar 0) (evC (.int 0))) (eaNil))))) [some (.loc fl), some (.int m), none, some (.int b), some (.int cell), none] T = some (z, T) := by
      by_cases hz : (10 : Int) ^ (18 : Int).toNat ≤ cell
      · rw [decide_eq_true hz] at t2
        exact ⟨_, (evAnd_t t2).trans t3⟩
      · rw [decide_eq_false hz] at t2
        exact ⟨_, evAnd_f t2⟩
    obtain ⟨z, t4⟩ := t4
    cases z with
    | true =>
      refine ⟨cell.fmod m, T.set fl (FC q (b + 1) (cell.fdiv m)), Int.fmod_nonneg_of_pos _ hm, Int.fmod_lt_of_pos _ hm, by rw [List.length_set]; exact hle, hst.trans (fd_set hq hf1 hs1), ?_⟩
      refine (sSeq_nx ((sIf_f t1).trans rfl)).trans ((sSeq_nx w1).trans ((sSeq_nx w2).trans ((sSeq_nx w3).trans ((sSeq_nx w4).trans (sSeq_rt ((sIf_t t4).trans ?_))))))
      exact (sSeq_nx (sPut_of (ev2_of rfl rfl (oFdiv_ints (dv _))) rfl rfl (fp2 hf1))).trans (sRet_of (ev2_of rfl rfl (oMod_ints hmz)))
    | false =>
      obtain ⟨r, r0, r1, w5⟩ := draw_tail (T := T) (u0 := some (.loc fl)) (u2 := none) (b := b) (cell := cell) hm
      exact ⟨r, T, r0, r1, hle, hst, (sSeq_nx ((sIf_f t1).trans rfl)).trans ((sSeq_nx w1).trans ((sSeq_nx w2).trans ((sSeq_nx w3).trans ((sSeq_nx w4).trans ((sSeq_nx ((sIf_f t4).trans rfl)).trans w5)))))⟩
theorem spec_draw {S : Store} {fl : Nat} {m : Int} (h : Fd S fl) (hm : 0 < m) (hm2 : m < 2 ^ 64) : ∃ r S', f_law_draw [.loc fl, .int m] S = some (.int r, S') ∧ 0 ≤ r ∧ r < m ∧ S'.length = S.length ∧ Stp fl S S' := by
  obtain ⟨r, S1, h1, h2, h3, h4, e⟩ := run_draw h hm hm2
  obtain ⟨d, S', e, _, hp⟩ := fSem_ex (P := P_draw) (Sem.rt e) ⟨rfl, fun fl' m' z => by cases z; exact ⟨r, rfl, h1, h2, h3, h4⟩⟩
  obtain ⟨r', rfl, g⟩ := hp fl m rfl
  exact ⟨r', S', e, g⟩
theorem spec_draw_nat {S : Store} {fl : Nat} {m : Int} (h : Fd S fl) (hm : 0 < m) (hm2 : m < 2 ^ 64) : ∃ (r : Nat) (S' : Store), f_law_draw [.loc fl, .int m] S = some (.int (r : Int), S') ∧ (r : Int) < m ∧ S'.length = S.length ∧ Stp fl S S' := by
  obtain ⟨r, S', e, h0, h1, h2, h3⟩ := spec_draw h hm hm2
  obtain ⟨k, rfl⟩ := Int.eq_ofNat_of_zero_le h0
  exact ⟨k, S', e, h1, h2, h3⟩
end Pw
set_option maxHeartbeats 1000000
namespace Pw
open PySem L2 Q2 Pf
/-! ### an odd thing -/
noncomputable def m_law_odd : Sv := sSeq (sSet 1 (evLst (eaCons (evC .non) (eaCons (evC (.bl true)) (eaCons (evC (.bl false)) (eaCons (evC (.int 0)) (eaCons (evC (.int 1)) (eaCons (ev1 oNeg (evC (.int 1))) (eaCons (ev2 oPow (evC (.int 10)) (evC (.int 39))) (eaCons (evC (.str "")) (eaCons (evC (.str "tie")) (eaCons (evTup (eaNil)) (eaCons (evLst (eaNil)) (eaCons (evTup (eaCons (evC (.int 0)) (eaCons (evC (.int 1)) (eaNil)))) (eaCons (evTup (eaCons (evC (.int 1)) (eaCons (evC (.int 0)) (eaNil)))) (eaCons (evTup (eaCons (evTup (eaCons (evC (.int 0)) (eaCons (evC (.int 1)) (eaNil)))) (eaNil))) (eaCons (evTup (eaCons (evC (.int 1)) (eaCons (evC (.int 1)) (eaNil)))) (eaCons (evTup (eaCons (evC (.bl true)) (eaCons (evC (.int 2)) (eaNil)))) (eaCons (evC (.int 1)) (eaNil)))))))))))))))))))) (sRet (ev2 oIx (evVar 1) (evF f_law_draw (eaCons (evVar 0) (eaCons (evC (.int 17)) (eaNil))))))
abbrev odds (n : Nat) : List D := [.non, .bl true, .bl false, .int 0, .int 1, .int (-1), .int (10 ^ 39), .str "", .str "tie", .tup [], .loc n, .tup [.int 0, .int 1], .tup [.int 1, .int 0], .tup [.tup [.int 0, .int 1]], .tup [.int 1, .int 1], .tup [.bl true, .int 2], .int 1]
theorem tx_nil : Tx "" := ⟨⟨by decide +kernel, by decide +kernel, by decide +kernel, by decide +kernel, by decide +kernel⟩, by decide +kernel⟩
theorem tx_tie : Tx "tie" := ⟨⟨by decide +kernel, by decide +kernel, by decide +kernel, by decide +kernel, by decide +kernel⟩, by decide +kernel⟩
theorem tx_one : Tx "1" := ⟨⟨by decide +kernel, by decide +kernel, by decide +kernel, by decide +kernel, by decide +kernel⟩, by decide +kernel⟩
/-- a small thing -/
def Sml (S : Store) (q : Nat → Prop) (B : Nat) (d : D) (k b : Nat) : Prop := ∃ p, Dat S q B d p ∧ p.depth ≤ k ∧ p.bulk ≤ b
theorem sml_ints {S : Store} {q : Nat → Prop} {B : Nat} {ns : List Int} (h : ∀ n ∈ ns, n.natAbs ≤ B) : Dat S q B (.tup (zs ns)) (.tuple (ns.map .int)) ∧ (PyData.tuple (ns.map .int)).depth = 1 ∧ (PyData.tuple (ns.map .int)).bulk = ns.length := by
  refine ⟨.tup (DatL.ints h), by simp [PyData.depth, depth_ints], ?_⟩
  simp only [PyData.bulk]
  clear h
  induction ns with
  | nil => rfl
  | cons n ns ih => simp only [List.map_cons, PyData.bulkAll, PyData.bulk, List.length_cons, ih]; omega
theorem odds_sml {S : Store} {q : Nat → Prop} {n : Nat} (h : S[n]? = some (Cell.lst [])) (hn : ¬ q n) : ∀ d ∈ odds n, Sml S q (10 ^ 39) d 2 8 := by
  intro d hd
  have two : ∀ a b : Int, a.natAbs ≤ 10 ^ 39 → b.natAbs ≤ 10 ^ 39 → Sml S q (10 ^ 39) (.tup [.int a, .int b]) 2 8 := fun a b ha hb => ⟨_, .tup (.cons (.int ha) (.cons (.int hb) .nil)), by simp [PyData.depth, PyData.depthAll], by simp [PyData.bulk, PyData.bulkAll]⟩
  have one : ∀ a : Int, a.natAbs ≤ 10 ^ 39 → Sml S q (10 ^ 39) (.int a) 2 8 := fun a ha => ⟨_, .int ha, by simp [PyData.depth], by simp [PyData.bulk]⟩
  simp only [List.mem_cons, List.not_mem_nil, or_false] at hd
  rcases hd with rfl | rfl | rfl | rfl | rfl | rfl | rfl | rfl | rfl | rfl | rfl | rfl | rfl | rfl | rfl | rfl | rfl
  · exact ⟨_, .non, by simp [PyData.depth], by simp [PyData.bulk]⟩
  · exact ⟨_, .bl _, by simp [PyData.depth], by simp [PyData.bulk]⟩
  · exact ⟨_, .bl _, by simp [PyData.depth], by simp [PyData.bulk]⟩
  · exact one _ (by decide)
  · exact one _ (by decide)
  · exact one _ (by decide)
  · exact one _ (by decide)
  · exact ⟨_, .str tx_nil, Nat.le_trans tx_nil.rp.dp (by decide), tx_nil.rp.bk⟩
  · exact ⟨_, .str tx_tie, Nat.le_trans tx_tie.rp.dp (by decide), tx_tie.rp.bk⟩
  · exact ⟨_, .tup .nil, by simp [PyData.depth, PyData.depthAll], by simp [PyData.bulk, PyData.bulkAll]⟩
  · exact ⟨_, .loc hn h .nil, by simp [PyData.depth, PyData.depthAll], by simp [PyData.bulk, PyData.bulkAll]⟩
  · exact two _ _ (by decide) (by decide)
  · exact two _ _ (by decide) (by decide)
  · exact ⟨_, .tup (.cons (.tup (.cons (.int (by decide)) (.cons (.int (by decide)) .nil))) .nil), by simp [PyData.depth, PyData.depthAll], by simp [PyData.bulk, PyData.bulkAll]⟩
  · exact two _ _ (by decide) (by decide)
  · exact ⟨_, .tup (.cons (.bl _) (.cons (.int (by decide)) .nil)), by simp [PyData.depth, PyData.depthAll], by simp [PyData.bulk, PyData.bulkAll]⟩
  · exact one _ (by decide)
def P_odd : List D → Store → D → Store → Prop := fun ds S d S' => ds.length = 1 ∧ ∀ fl, ds = [.loc fl] → Stp fl S S' ∧ ∀ q : Nat → Prop, (∀ i, q i → i < S.length) → Sml S' q (10 ^ 39) d 2 8
noncomputable def f_law_odd : Fn := fSem m_law_odd ["_law_feed_here", "_law_some"] P_odd
theorem spec_odd {S : Store} {fl : Nat} (h : Fd S fl) : ∃ d S', f_law_odd [.loc fl] S = some (d, S') ∧ Stp fl S S' ∧ ∀ q : Nat → Prop, (∀ i, q i → i < S.length) → Sml S' q (10 ^ 39) d 2 8 := by
  have hne : S.length ≠ fl := by have := h.lt; omega
  have q0 : sSet 1 (evLst (eaCons (evC .non) (eaCons (evC (.bl true)) (eaCons (evC (.bl false)) (eaCons (evC (.int 0)) (eaCons (evC (.int 1)) (eaCons (ev1 oNeg (evC (.int 1))) (eaCons (ev2 oPow (evC (.int 10)) (evC (.int 39))) (eaCons (evC (.str "")) (eaCons (evC (.str "tie")) (eaCons (evTup (eaNil)) (eaCons (evLst (eaNil)) (eaCons (evTup (eaCons (evC (.int 0)) (eaCons (evC (.int 1)) (eaNil)))) (eaCons (evTup (eaCons (evC (.int 1)) (eaCons (evC (.int 0)) (eaNil)))) (eaCons (evTup (eaCons (evTup (eaCons (evC (.int 0)) (eaCons (evC (.int 1)) (eaNil)))) (eaNil))) (eaCons (evTup (eaCons (evC (.int 1)) (eaCons (evC (.int 1)) (eaNil)))) (eaCons (evTup (eaCons (evC (.bl true)) (eaCons (evC (.int 2)) (eaNil)))) (eaCons (evC (.int 1)) (eaNil))))))))))))))))))) [some (.loc fl), none] S = some (.nx [some (.loc fl), some (.loc (S ++ [Cell.lst []]).length)] (S ++ [.lst []] ++ [.lst (odds S.length)])) := rfl
  have f1 : Fd (S ++ [Cell.lst []] ++ [Cell.lst (odds S.length)]) fl := h.app.app
  obtain ⟨r, S2, e, hr, hl, st⟩ := spec_draw_nat (m := 17) f1 (by decide) (by decide)
  have g1 : S2[(S ++ [Cell.lst []]).length]? = some (Cell.lst (odds S.length)) := st.get (by rw [List.length_append]; have := h.lt; omega) get_last
  have g0 : S2[S.length]? = some (Cell.lst []) := st.get hne (getW get_last)
  have hr' : r < (odds S.length).length := by show r < 17; omega
  have hx : (odds S.length)[r]? = some (odds S.length)[r] := List.getElem?_eq_getElem hr'
  have run : m_law_odd (startD ["_law_feed_here", "_law_some"] [.loc fl]) S = some (.rt (odds S.length)[r] S2) := by
    refine (sSeq_nx q0).trans (sRet_of (ev2_of rfl (evF_of (ea2 rfl rfl) e) ?_))
    rw [oIx_loc (.inl g1), atI_nat hx]; rfl
  have s0 : Stp fl S S2 := (Stp.trans (Stp.app h) (Stp.app h.app)).trans st
  obtain ⟨d, S', e, _, hp⟩ := fSem_ex (P := P_odd) (Sem.rt run) ⟨rfl, fun fl' z => by cases z; exact ⟨s0, fun q hq => odds_sml g0 (fun z => Nat.lt_irrefl _ (hq _ z)) _ (List.getElem_mem hr')⟩⟩
  exact ⟨d, S', e, hp fl rfl⟩
end Pw
set_option maxHeartbeats 1000000
namespace Pw
open PySem L2 Q2 Pf
/-! ### a thing is bent -/
noncomputable def m_law_bent (F : Fn) : Sv := sSeq (sIf (evAnd (evTru (ev1 (oIsi .tup) (evVar 1))) (evAnd (evB (ev2 oNe (evVar 1) (evTup (eaNil)))) (evB (ev2 oGt (evF f_law_draw (eaCons (evVar 0) (eaCons (evC (.int 4)) (eaNil)))) (evC (.int 0)))))) (sSeq (sSet 2 (evF f_law_draw (eaCons (evVar 0) (eaCons (evF fLen (eaCons (evVar 1) (eaNil))) (eaNil))))) (sRet (ev2 oAdd2 (ev2 oAdd2 (evSl (evVar 1) (eoN) (eoS (evVar 2))) (evTup (eaCons (evF F (eaCons (evVar 0) (eaCons (ev2 oIx (evVar 1) (evVar 2)) (eaNil)))) (eaNil)))) (evSl (evVar 1) (eoS (ev2 oAdd (evVar 2) (evC (.int 1)))) (eoN))))) (sSkip)) (sSeq (sIf (evNot (evTru (ev1 (oIsi .tup) (evVar 1)))) (sSeq (sIf (evAnd (evTru (evF f_law_is_whole (eaCons (evVar 1) (eaNil)))) (evB (ev2 oGt (evF f_law_draw (eaCons (evVar 0) (eaCons (evC (.int 3)) (eaNil)))) (evC (.int 0))))) (sRet (ev2 oIx (evLst (eaCons (ev2 oAdd (evVar 1) (evC (.int 1))) (eaCons (ev2 oSub (evVar 1) (evC (.int 1))) (eaCons (ev2 oEq (evVar 1) (evC (.int 1))) (eaNil))))) (evF f_law_draw (eaCons (evVar 0) (eaCons (evC (.int 3)) (eaNil)))))) (sSkip)) (sRet (evF f_law_odd (eaCons (evVar 0) (eaNil))))) (sSkip)) (sSeq (sSet 3 (evF f_law_draw (eaCons (evVar 0) (eaCons (evC (.int 7)) (eaNil))))) (sSeq (sSet 2 (evF f_law_draw (eaCons (evVar 0) (eaCons (ev2 oAdd (evF fLen (eaCons (evVar 1) (eaNil))) (evC (.int 1))) (eaNil))))) (sSeq (sIf (evB (ev2 oEq (evVar 3) (evC (.int 0)))) (sRet (evF fList (eaCons (evVar 1) (eaNil)))) (sSkip)) (sSeq (sIf (evB (ev2 oEq (evVar 3) (evC (.int 1)))) (sRet (ev2 oAdd2 (evSl (evVar 1) (eoN) (eoS (evVar 2))) (evSl (evVar 1) (eoS (ev2 oAdd (evVar 2) (evC (.int 1)))) (eoN)))) (sSkip)) (sSeq (sIf (evB (ev2 oEq (evVar 3) (evC (.int 2)))) (sRet (ev2 oAdd2 (ev2 oAdd2 (evSl (evVar 1) (eoN) (eoS (evVar 2))) (evTup (eaCons (evF f_law_odd (eaCons (evVar 0) (eaNil))) (eaNil)))) (evSl (evVar 1) (eoS (evVar 2)) (eoN)))) (sSkip)) (sSeq (sIf (evB (ev2 oEq (evVar 3) (evC (.int 3)))) (sRet (ev1 oRev (evVar 1))) (sSkip)) (sSeq (sIf (evB (ev2 oEq (evVar 3) (evC (.int 4)))) (sRet (ev2 oAdd2 (ev2 oAdd2 (evSl (evVar 1) (eoN) (eoS (evVar 2))) (evSl (evVar 1) (eoS (evVar 2)) (eoS (ev2 oAdd (evVar 2) (evC (.int 1)))))) (evSl (evVar 1) (eoS (evVar 2)) (eoN)))) (sSkip)) (sRet (ev2 oIx (evLst (eaCons (evF f_law_odd (eaCons (evVar 0) (eaNil))) (eaCons (evTup (eaCons (evVar 1) (eaNil))) (eaNil)))) (ev2 oSub (evVar 3) (evC (.int 5)))))))))))))
abbrev NB : List Str := ["_law_feed_here", "_law_thing", "_law_at", "_law_way"]
def Out (fl : Nat) (S : Store) (d d' : D) (S' : Store) : Prop := Stp fl S S' ∧ ∀ (q : Nat → Prop) p B B', q fl → (∀ i, q i → i < S.length) → Dat S q B d p → B + 1 ≤ B' → 10 ^ 39 ≤ B' → ∃ p', Dat S' q B' d' p' ∧ p'.depth ≤ p.depth + 2 ∧ p'.bulk ≤ 2 * p.bulk + 10
theorem Out.pre {fl : Nat} {S S1 S' : Store} {d d' : D} (st : Stp fl S S1) (h : Out fl S1 d d' S') : Out fl S d d' S' := ⟨st.trans h.1, fun q p B B' hf hq hd h1 h2 => h.2 q p B B' hf (fun i z => Nat.lt_of_lt_of_le (hq i z) st.len) (hd.mono (st.ok hf)) h1 h2⟩
theorem cut_mid (xs : List D) (k : Nat) : ∃ w, cutD xs (some (k : Int)) (some ((k + 1 : Nat) : Int)) = (xs.drop k).take w := by
  unfold cutD
  rw [HT.sIx_nat, HT.sIx_nat]
  by_cases h : k ≤ xs.length
  · rw [Nat.min_eq_left h]; exact ⟨_, rfl⟩
  · refine ⟨0, ?_⟩
    rw [List.drop_eq_nil_of_le (by omega), List.take_nil, List.take_zero]
theorem dp_tup (ps : List PyData) : (PyData.tuple ps).depth = PyData.depthAll ps + 1 := by simp only [PyData.depth]
theorem dp_lst (ps : List PyData) : (PyData.list ps).depth = PyData.depthAll ps + 1 := by simp only [PyData.depth]
theorem bk_tup (ps : List PyData) : (PyData.tuple ps).bulk = PyData.bulkAll ps := by simp only [PyData.bulk]
theorem bk_lst (ps : List PyData) : (PyData.list ps).bulk = PyData.bulkAll ps := by simp only [PyData.bulk]
theorem dp_one (p : PyData) : PyData.depthAll [p] = p.depth := by simp [PyData.depthAll]
theorem bk_one (p : PyData) : PyData.bulkAll [p] = p.bulk + 1 := by simp [PyData.bulkAll]
theorem len_of {S : Store} {q : Nat → Prop} {B : Nat} {ds : List D} {ps : List PyData} (h : DatL S q B ds ps) (hb : (PyData.tuple ps).bulk ≤ 450) : ds.length ≤ 450 := by
  rw [h.length]; rw [bk_tup] at hb; exact Nat.le_trans (len_bulk ps) hb
/-- the ways of a tuple -/
noncomputable abbrev bentWays : Sv := sSeq (sSet 3 (evF f_law_draw (eaCons (evVar 0) (eaCons (evC (.int 7)) (eaNil))))) (sSeq (sSet 2 (evF f_law_draw (eaCons (evVar 0) (eaCons (ev2 oAdd (evF fLen (eaCons (evVar 1) (eaNil))) (evC (.int 1))) (eaNil))))) (sSeq (sIf (evB (ev2 oEq (evVar 3) (evC (.int 0)))) (sRet (evF fList (eaCons (evVar 1) (eaNil)))) (sSkip)) (sSeq (sIf (evB (ev2 oEq (evVar 3) (evC (.int 1)))) (sRet (ev2 oAdd2 (evSl (evVar 1) (eoN) (eoS (evVar 2))) (evSl (evVar 1) (eoS (ev2 oAdd (evVar 2) (evC (.int 1)))) (eoN)))) (sSkip)) (sSeq (sIf (evB (ev2 oEq (evVar 3) (evC (.int 2)))) (sRet (ev2 oAdd2 (ev2 oAdd2 (evSl (evVar 1) (eoN) (eoS (evVar 2))) (evTup (eaCons (evF f_law_odd (eaCons (evVar 0) (eaNil))) (eaNil)))) (evSl (evVar 1) (eoS (evVar 2)) (eoN)))) (sSkip)) (sSeq (sIf (evB (ev2 oEq (evVar 3) (evC (.int 3)))) (sRet (ev1 oRev (evVar 1))) (sSkip)) (sSeq (sIf (evB (ev2 oEq (evVar 3) (evC (.int 4)))) (sRet (ev2 oAdd2 (ev2 oAdd2 (evSl (evVar 1) (eoN) (eoS (evVar 2))) (evSl (evVar 1) (eoS (evVar 2)) (eoS (ev2 oAdd (evVar 2) (evC (.int 1)))))) (evSl (evVar 1) (eoS (evVar 2)) (eoN)))) (sSkip)) (sRet (ev2 oIx (evLst (eaCons (evF f_law_odd (eaCons (evVar 0) (eaNil))) (eaCons (evTup (eaCons (evVar 1) (eaNil))) (eaNil)))) (ev2 oSub (evVar 3) (evC (.int 5)))))))))))
theorem sl_take {fl : D} {ds : List D} {k : Nat} {u : Option D} {S : Store} (hk : k ≤ ds.length) : evSl (evVar 1) (eoN) (eoS (evVar 2)) [some fl, some (.tup ds), some (.int (k : Int)), u] S = some (.tup (ds.take k), S) := by
  have := evSl_tup (m := evVar 1) (ml := eoN) (mh := eoS (evVar 2)) (σ := [some fl, some (.tup ds), some (.int (k : Int)), u]) (S := S) (xs := ds) rfl (show eoN _ S = some (none, S) from rfl) (eoS_of (show evVar 2 _ S = some (.int (k : Int), S) from rfl))
  rw [this, cut_take _ _ hk]
theorem sl_drop {fl : D} {ds : List D} {k : Nat} {u : Option D} {S : Store} : evSl (evVar 1) (eoS (evVar 2)) (eoN) [some fl, some (.tup ds), some (.int (k : Int)), u] S = some (.tup (ds.drop k), S) := by
  have := evSl_tup (m := evVar 1) (ml := eoS (evVar 2)) (mh := eoN) (σ := [some fl, some (.tup ds), some (.int (k : Int)), u]) (S := S) (xs := ds) rfl (eoS_of (show evVar 2 _ S = some (.int (k : Int), S) from rfl)) (show eoN _ S = some (none, S) from rfl)
  rw [this, cut_drop]
theorem plus1 (k : Nat) : ((k : Int) + 1) = ((k + 1 : Nat) : Int) := by omega
theorem sl_drop1 {fl : D} {ds : List D} {k : Nat} {u : Option D} {S : Store} : evSl (evVar 1) (eoS (ev2 oAdd (evVar 2) (evC (.int 1)))) (eoN) [some fl, some (.tup ds), some (.int (k : Int)), u] S = some (.tup (ds.drop (k + 1)), S) := by
  have := evSl_tup (m := evVar 1) (ml := eoS (ev2 oAdd (evVar 2) (evC (.int 1)))) (mh := eoN) (σ := [some fl, some (.tup ds), some (.int (k : Int)), u]) (S := S) (xs := ds) rfl (eoS_of (show ev2 oAdd (evVar 2) (evC (.int 1)) _ S = some (.int ((k : Int) + 1), S) from rfl)) (show eoN _ S = some (none, S) from rfl)
  rw [this, plus1, cut_drop]
theorem sl_mid {fl : D} {ds : List D} {k : Nat} {u : Option D} {S : Store} : ∃ w, evSl (evVar 1) (eoS (evVar 2)) (eoS (ev2 oAdd (evVar 2) (evC (.int 1)))) [some fl, some (.tup ds), some (.int (k : Int)), u] S = some (.tup ((ds.drop k).take w), S) := by
  obtain ⟨w, hw⟩ := cut_mid ds k
  have := evSl_tup (m := evVar 1) (ml := eoS (evVar 2)) (mh := eoS (ev2 oAdd (evVar 2) (evC (.int 1)))) (σ := [some fl, some (.tup ds), some (.int (k : Int)), u]) (S := S) (xs := ds) rfl (eoS_of (show evVar 2 _ S = some (.int (k : Int), S) from rfl)) (eoS_of (show ev2 oAdd (evVar 2) (evC (.int 1)) _ S = some (.int ((k : Int) + 1), S) from rfl))
  rw [plus1, hw] at this
  exact ⟨w, this⟩
theorem run_ways {S : Store} {fl : Nat} {ds : List D} (h : Fd S fl) (hl : ds.length ≤ 450) : ∃ d' S', bentWays [some (.loc fl), some (.tup ds), none, none] S = some (.rt d' S') ∧ Out fl S (.tup ds) d' S' := by
  obtain ⟨r, S1, e1, hr, hl1, st1⟩ := spec_draw_nat (m := 7) h (by decide) (by decide)
  obtain ⟨k, S2, e2, hk, hl2, st2⟩ := spec_draw_nat (m := ((ds.length : Nat) : Int) + 1) st1.fd (by omega) (by omega)
  have hk' : k ≤ ds.length := by omega
  have st := st1.trans st2
  have q1 : sSet 3 (evF f_law_draw (eaCons (evVar 0) (eaCons (evC (.int 7)) (eaNil)))) [some (.loc fl), some (.tup ds), none, none] S = some (.nx [some (.loc fl), some (.tup ds), none, some (.int (r : Int))] S1) := sSet_of (evF_of (ea2 rfl rfl) e1)
  have q2 : sSet 2 (evF f_law_draw (eaCons (evVar 0) (eaCons (ev2 oAdd (evF fLen (eaCons (evVar 1) (eaNil))) (evC (.int 1))) (eaNil)))) [some (.loc fl), some (.tup ds), none, some (.int (r : Int))] S1 = some (.nx [some (.loc fl), some (.tup ds), some (.int (k : Int)), some (.int (r : Int))] S2) := sSet_of (evF_of (ea2 rfl (ev2_of (evF_of (ea1 rfl) rfl) rfl rfl)) e2)
  have tk := sl_take (fl := .loc fl) (ds := ds) (k := k) (u := some (.int (r : Int))) (S := S2) hk'
  have dr := fun S => @sl_drop (.loc fl) ds k (some (.int (r : Int))) S
  have dr1 := @sl_drop1 (.loc fl) ds k (some (.int (r : Int))) S2
  have lt : (ds.take k).length ≤ 450 := by rw [List.length_take]; omega
  have ld : ∀ j, (ds.drop j).length ≤ 450 := fun j => by rw [List.length_drop]; omega
  have post : ∀ {d' S'}, Out fl S2 (.tup ds) d' S' → Out fl S (.tup ds) d' S' := fun h => Out.pre st h
  have lift : ∀ {d' S' X}, X [some (.loc fl), some (.tup ds), some (.int (k : Int)), some (.int (r : Int))] S2 = some (.rt d' S') → Out fl S2 (.tup ds) d' S' → ∃ d' S', sSeq (sSet 3 (evF f_law_draw (eaCons (evVar 0) (eaCons (evC (.int 7)) (eaNil))))) (sSeq (sSet 2 (evF f_law_draw (eaCons (evVar 0) (eaCons (ev2 oAdd (evF fLen (eaCons (evVar 1) (eaNil))) (evC (.int 1))) (eaNil))))) X) [some (.loc fl), some (.tup ds), none, none] S = some (.rt d' S') ∧ Out fl S (.tup ds) d' S' := fun h1 h2 => ⟨_, _, (sSeq_nx q1).trans ((sSeq_nx q2).trans h1), post h2⟩
  have hr7 : r = 0 ∨ r = 1 ∨ r = 2 ∨ r = 3 ∨ r = 4 ∨ r = 5 ∨ r = 6 := by omega
  rcases hr7 with rfl | rfl | rfl | rfl | rfl | rfl | rfl
  · refine lift (d' := .loc S2.length) (S' := S2 ++ [.lst ds]) (sSeq_rt ((sIf_t rfl).trans (sRet_of (evF_of (ea1 rfl) rfl)))) ⟨Stp.app st.fd, fun q p B B' hf hq hd h1 h2 => ?_⟩
    cases hd with
    | @tup _ ps hd =>
      refine ⟨.list ps, .loc (fun z => Nat.lt_irrefl _ (hq _ z)) get_last ((hd.mono app_ok).up (by omega)), ?_, ?_⟩
      · rw [dp_tup, dp_lst]; omega
      · rw [bk_tup, bk_lst]; omega
  · refine lift (d' := .tup (ds.take k ++ ds.drop (k + 1))) (S' := S2) ((sSeq_nx ((sIf_f rfl).trans rfl)).trans (sSeq_rt ((sIf_t rfl).trans (sRet_of (ev2_of tk dr1 (oAdd2_tup (by have := ld (k + 1); omega))))))) ⟨Stp.refl st.fd, fun q p B B' hf hq hd h1 h2 => ?_⟩
    cases hd with
    | @tup _ ps hd =>
      refine ⟨.tuple (ps.take k ++ ps.drop (k + 1)), .tup (((hd.take k).append (hd.drop (k + 1))).up (by omega)), ?_, ?_⟩
      · have := depth_take ps k; have := depth_drop ps (k + 1)
        rw [dp_tup, dp_tup, depth_append]; omega
      · have := bulk_take ps k; have := bulk_drop ps (k + 1)
        rw [bk_tup, bk_tup, bulk_append]; omega
  · obtain ⟨o, S3, eo, st3, sml⟩ := spec_odd st.fd
    refine lift (d' := .tup (ds.take k ++ [o] ++ ds.drop k)) (S' := S3) ((sSeq_nx ((sIf_f rfl).trans rfl)).trans ((sSeq_nx ((sIf_f rfl).trans rfl)).trans (sSeq_rt ((sIf_t rfl).trans (sRet_of (ev2_of (ev2_of tk (evTup_of (ea1 (evF_of (ea1 rfl) eo)) (by show 1 ≤ 1000; decide)) (oAdd2_tup (by show _ + 1 ≤ 1000; omega))) (dr S3) (oAdd2_tup (by have := ld k; rw [List.length_append]; show _ + 1 + _ ≤ 1000; omega)))))))) ⟨st3, fun q p B B' hf hq hd h1 h2 => ?_⟩
    cases hd with
    | @tup _ ps hd =>
      obtain ⟨po, ho, do1, do2⟩ := sml q hq
      have hd' := (hd.mono (st3.ok hf)).up (B' := B') (by omega)
      refine ⟨.tuple (ps.take k ++ [po] ++ ps.drop k), .tup (((hd'.take k).append (.cons (ho.up h2) .nil)).append (hd'.drop k)), ?_, ?_⟩
      · have := depth_take ps k; have := depth_drop ps k
        rw [dp_tup, dp_tup, depth_append, depth_append, dp_one]; omega
      · have := bulk_append (ps.take k) (ps.drop k)
        rw [List.take_append_drop] at this
        rw [bk_tup, bk_tup, bulk_append, bulk_append, bk_one]; omega
  · refine lift (d' := .tup ds.reverse) (S' := S2) ((sSeq_nx ((sIf_f rfl).trans rfl)).trans ((sSeq_nx ((sIf_f rfl).trans rfl)).trans ((sSeq_nx ((sIf_f rfl).trans rfl)).trans (sSeq_rt ((sIf_t rfl).trans (sRet_of rfl)))))) ⟨Stp.refl st.fd, fun q p B B' hf hq hd h1 h2 => ?_⟩
    cases hd with
    | @tup _ ps hd =>
      refine ⟨.tuple ps.reverse, .tup (hd.reverse.up (by omega)), ?_, ?_⟩
      · rw [dp_tup, dp_tup, depth_rev]; omega
      · rw [bk_tup, bk_tup, bulk_rev]; omega
  · obtain ⟨w, md⟩ := @sl_mid (.loc fl) ds k (some (.int ((4 : Nat) : Int))) S2
    have lm : ((ds.drop k).take w).length ≤ 450 := by rw [List.length_take]; have := ld k; omega
    have hj := List.length_take_le w (ds.drop k)
    refine lift (d' := .tup (ds.take k ++ (ds.drop k).take w ++ ds.drop k)) (S' := S2) ((sSeq_nx ((sIf_f rfl).trans rfl)).trans ((sSeq_nx ((sIf_f rfl).trans rfl)).trans ((sSeq_nx ((sIf_f rfl).trans rfl)).trans ((sSeq_nx ((sIf_f rfl).trans rfl)).trans (sSeq_rt ((sIf_t rfl).trans (sRet_of (ev2_of (ev2_of tk md (oAdd2_tup (by omega))) (dr S2) (oAdd2_tup ?_))))))))) ⟨Stp.refl st.fd, fun q p B B' hf hq hd h1 h2 => ?_⟩
    · rw [List.length_append, List.length_take, List.length_take, List.length_drop]
      omega
    · cases hd with
      | @tup _ ps hd =>
        refine ⟨.tuple (ps.take k ++ (ps.drop k).take w ++ ps.drop k), .tup ((((hd.take k).append ((hd.drop k).take w)).append (hd.drop k)).up (by omega)), ?_, ?_⟩
        · have := depth_take ps k; have := depth_drop ps k; have := depth_take (ps.drop k) w
          rw [dp_tup, dp_tup, depth_append, depth_append]; omega
        · have := bulk_append (ps.take k) (ps.drop k)
          rw [List.take_append_drop] at this
          have := bulk_take (ps.drop k) w
          rw [bk_tup, bk_tup, bulk_append, bulk_append]; omega
  · obtain ⟨o, S3, eo, st3, sml⟩ := spec_odd st.fd
    have g : (S3 ++ [Cell.lst [o, .tup [.tup ds]]])[S3.length]? = some (Cell.lst [o, .tup [.tup ds]]) := get_last
    refine lift (d' := o) (S' := S3 ++ [.lst [o, .tup [.tup ds]]]) ((sSeq_nx ((sIf_f rfl).trans rfl)).trans ((sSeq_nx ((sIf_f rfl).trans rfl)).trans ((sSeq_nx ((sIf_f rfl).trans rfl)).trans ((sSeq_nx ((sIf_f rfl).trans rfl)).trans ((sSeq_nx ((sIf_f rfl).trans rfl)).trans (sRet_of (ev2_of (evLst_of (ea2 (evF_of (ea1 rfl) eo) (evTup_of (ea1 rfl) (by show 1 ≤ 1000; decide))) (by show 2 ≤ 1000; decide)) rfl ((oIx_loc (.inl g)).trans rfl)))))))) ⟨st3.trans (Stp.app st3.fd), fun q p B B' hf hq hd h1 h2 => ?_⟩
    cases hd with
    | @tup _ ps hd =>
      obtain ⟨po, ho, do1, do2⟩ := sml q hq
      refine ⟨po, (ho.mono app_ok).up h2, ?_, ?_⟩
      · omega
      · omega
  · obtain ⟨o, S3, eo, st3, sml⟩ := spec_odd st.fd
    have g : (S3 ++ [Cell.lst [o, .tup [.tup ds]]])[S3.length]? = some (Cell.lst [o, .tup [.tup ds]]) := get_last
    refine lift (d' := .tup [.tup ds]) (S' := S3 ++ [.lst [o, .tup [.tup ds]]]) ((sSeq_nx ((sIf_f rfl).trans rfl)).trans ((sSeq_nx ((sIf_f rfl).trans rfl)).trans ((sSeq_nx ((sIf_f rfl).trans rfl)).trans ((sSeq_nx ((sIf_f rfl).trans rfl)).trans ((sSeq_nx ((sIf_f rfl).trans rfl)).trans (sRet_of (ev2_of (evLst_of (ea2 (evF_of (ea1 rfl) eo) (evTup_of (ea1 rfl) (by show 1 ≤ 1000; decide))) (by show 2 ≤ 1000; decide)) rfl ((oIx_loc (.inl g)).trans rfl)))))))) ⟨st3.trans (Stp.app st3.fd), fun q p B B' hf hq hd h1 h2 => ?_⟩
    cases hd with
    | @tup _ ps hd =>
      refine ⟨.tuple [.tuple ps], .tup (.cons (.tup (((hd.mono (st3.ok hf)).mono app_ok).up (by omega))) .nil), ?_, ?_⟩
      · rw [dp_tup, dp_one]; omega
      · rw [bk_tup, bk_one]; omega
end Pw
set_option maxHeartbeats 1000000
namespace Pw
open PySem L2 Q2 Pf
theorem ne_empty {S : Store} {q : Nat → Prop} {B : Nat} {ds : List D} {ps : List PyData} {σ : Sg} {i : Nat} (hd : DatL S q B ds ps) (h7 : (PyData.tuple ps).depth ≤ 7) (hσ : σ[i]? = some (some (.tup ds))) : evB (ev2 oNe (evVar i) (evTup (eaNil))) σ S = some (decide (ds ≠ []), S) := by
  have v : evVar i σ S = some (.tup ds, S) := by unfold evVar; rw [hσ]; rfl
  have hd' : Dat S q B (.tup ds) (.tuple ps) := .tup hd
  have e : eqD (.tup ds) (.tup []) S = some (decide (ds = [])) := by
    show ((toP S 8 (D.tup ds)).bind fun p => (toP S 8 (D.tup [])).bind fun q => _) = _
    rw [hd'.toP 8 (by omega), show toP S 8 (D.tup []) = some (.tuple []) from rfl]
    refine (if_pos ⟨hd'.shaped (by omega), shaped_tup []⟩).trans ?_
    cases hd with
    | nil => simp [PyData.eqv, PyData.eqvAll]
    | cons _ _ => simp [PyData.eqv, PyData.eqvAll]
  refine evB_of (ev2_of v (evTup_of (show eaNil σ S = some ([], S) from rfl) (by show 0 ≤ 1000; decide)) ?_)
  show (eqD (.tup ds) (.tup []) S).map _ = _
  rw [e]
  show some (D.bl (!decide (ds = [])), _) = _
  congr 3
  by_cases h : ds = [] <;> simp [h]
theorem out_odd {fl : Nat} {S S' : Store} {d o : D} (st : Stp fl S S') (h : ∀ q : Nat → Prop, (∀ i, q i → i < S.length) → Sml S' q (10 ^ 39) o 2 8) : Out fl S d o S' := ⟨st, fun q p B B' _ hq _ h1 h2 => by
  obtain ⟨p', hp, q1, q2⟩ := h q hq
  exact ⟨p', hp.up h2, by omega, by omega⟩⟩
theorem depth_mem {ps : List PyData} {k : Nat} {p : PyData} (h : ps[k]? = some p) : p.depth ≤ PyData.depthAll ps := by
  have e := split_at h
  rw [e, depth_append]
  simp only [PyData.depthAll]; omega
theorem bulk_mem {ps : List PyData} {k : Nat} {p : PyData} (h : ps[k]? = some p) : PyData.bulkAll ps = PyData.bulkAll (ps.take k) + (p.bulk + 1 + PyData.bulkAll (ps.drop (k + 1))) := by
  have e := split_at h
  conv => lhs; rw [e, bulk_append]
  simp only [PyData.bulkAll]
theorem run_bent {F : Fn} {fl n B : Nat} {q : Nat → Prop} (hq0 : q fl) (hF : ∀ S d p, Fd S fl → Dat S q B d p → p.depth < n → p.depth ≤ 7 → p.bulk ≤ 450 → ∃ d' S', F [.loc fl, d] S = some (d', S') ∧ Out fl S d d' S') {S : Store} {d : D} {p : PyData} (h : Fd S fl) (hd : Dat S q B d p) (hn : p.depth ≤ n) (h7 : p.depth ≤ 7) (hb : p.bulk ≤ 450) :
    ∃ d' S', m_law_bent F (startD NB [.loc fl, d]) S = some (.rt d' S') ∧ Out fl S d d' S' := by
  by_cases ht : ∃ ds, d = .tup ds
  · obtain ⟨ds, rfl⟩ := ht
    cases hd with
    | @tup _ ps hd =>
    have hl := len_of hd hb
    have tI : evTru (ev1 (oIsi .tup) (evVar 1)) [some (.loc fl), some (.tup ds), none, none] S = some (true, S) := rfl
    have tN := ne_empty (σ := [some (.loc fl), some (.tup ds), none, none]) (i := 1) hd h7 rfl
    have tJ : ∀ T, evNot (evTru (ev1 (oIsi .tup) (evVar 1))) [some (.loc fl), some (.tup ds), none, none] T = some (false, T) := fun T => rfl
    by_cases he : ds = []
    · rw [decide_eq_false (fun z => z he)] at tN
      obtain ⟨d', S', e, o⟩ := run_ways h hl
      exact ⟨d', S', (sSeq_nx ((sIf_f ((evAnd_t tI).trans (evAnd_f tN))).trans rfl)).trans ((sSeq_nx ((sIf_f (tJ S)).trans rfl)).trans e), o⟩
    · rw [decide_eq_true he] at tN
      obtain ⟨r, S1, e1, hr, hl1, st1⟩ := spec_draw_nat (m := 4) h (by decide) (by decide)
      have tD : evB (ev2 oGt (evF f_law_draw (eaCons (evVar 0) (eaCons (evC (.int 4)) (eaNil)))) (evC (.int 0))) [some (.loc fl), some (.tup ds), none, none] S = some (decide (0 < (r : Int)), S1) := evB_of (ev2_of (evF_of (ea2 rfl rfl) e1) rfl rfl)
      by_cases h0 : 0 < (r : Int)
      · rw [decide_eq_true h0] at tD
        have hlp : 0 < ds.length := List.length_pos_iff.mpr he
        obtain ⟨k, S2, e2, hk, hl2, st2⟩ := spec_draw_nat (m := ((ds.length : Nat) : Int)) st1.fd (by omega) (by omega)
        have hkl : k < ds.length := by omega
        have hkp : k < ps.length := by rw [← hd.length]; exact hkl
        obtain ⟨x, hx, dx⟩ := hd.get (List.getElem?_eq_getElem hkp)
        have bm := bulk_mem (List.getElem?_eq_getElem hkp)
        have dm := depth_mem (List.getElem?_eq_getElem hkp)
        rw [bk_tup] at hb
        rw [dp_tup] at hn
        obtain ⟨y, S3, e3, o3⟩ := hF S2 x ps[k] st2.fd (dx.mono ((st1.trans st2).ok hq0)) (by omega) (by rw [dp_tup] at h7; omega) (by omega)
        have a1 : sSet 2 (evF f_law_draw (eaCons (evVar 0) (eaCons (evF fLen (eaCons (evVar 1) (eaNil))) (eaNil)))) [some (.loc fl), some (.tup ds), none, none] S1 = some (.nx [some (.loc fl), some (.tup ds), some (.int (k : Int)), none] S2) := sSet_of (evF_of (ea2 rfl (evF_of (ea1 rfl) rfl)) e2)
        have tk := sl_take (fl := .loc fl) (ds := ds) (k := k) (u := none) (S := S2) (by omega)
        have dr1 := @sl_drop1 (.loc fl) ds k none S3
        have ix : ev2 oIx (evVar 1) (evVar 2) [some (.loc fl), some (.tup ds), some (.int (k : Int)), none] S2 = some (x, S2) := by
          refine ev2_of rfl rfl ?_
          show (L2.atI ds (k : Int)).map _ = _
          rw [atI_nat hx]; rfl
        refine ⟨.tup (ds.take k ++ [y] ++ ds.drop (k + 1)), S3, sSeq_rt ((sIf_t ((evAnd_t tI).trans ((evAnd_t tN).trans tD))).trans ((sSeq_nx a1).trans (sRet_of (ev2_of (ev2_of tk (evTup_of (ea1 (evF_of (ea2 rfl ix) e3)) (by show 1 ≤ 1000; decide)) (oAdd2_tup (by rw [List.length_take]; show _ + 1 ≤ 1000; omega))) dr1 (oAdd2_tup ?_))))), (st1.trans st2).trans o3.1, fun q2 p B1 B2 hf hq hd2 h1 h2 => ?_⟩
        · rw [List.length_append, List.length_take, List.length_drop]; show _ + 1 + _ ≤ 1000; omega
        · cases hd2 with
          | @tup _ qs hd2 =>
            have hkq : k < qs.length := by rw [← hd2.length]; exact hkl
            obtain ⟨x', hx', dx'⟩ := hd2.get (List.getElem?_eq_getElem hkq)
            rw [hx] at hx'; cases hx'
            have bm := bulk_mem (List.getElem?_eq_getElem hkq)
            have dm := depth_mem (List.getElem?_eq_getElem hkq)
            obtain ⟨p1, dp1, u1, u2⟩ := o3.2 q2 _ B1 B2 hf (fun i z => Nat.lt_of_lt_of_le (hq i z) (st1.trans st2).len) (dx'.mono ((st1.trans st2).ok hf)) h1 h2
            have hd3 := (hd2.mono (((st1.trans st2).trans o3.1).ok hf)).up (B' := B2) (by omega)
            refine ⟨.tuple (qs.take k ++ [p1] ++ qs.drop (k + 1)), .tup (((hd3.take k).append (.cons dp1 .nil)).append (hd3.drop (k + 1))), ?_, ?_⟩
            · have := depth_take qs k; have := depth_drop qs (k + 1)
              rw [dp_tup, dp_tup, depth_append, depth_append, dp_one]; omega
            · rw [bk_tup, bk_tup, bulk_append, bulk_append, bk_one]; omega
      · rw [decide_eq_false h0] at tD
        obtain ⟨d', S', e, o⟩ := run_ways st1.fd hl
        exact ⟨d', S', (sSeq_nx ((sIf_f ((evAnd_t tI).trans ((evAnd_t tN).trans tD))).trans rfl)).trans ((sSeq_nx ((sIf_f (tJ S1)).trans rfl)).trans e), Out.pre st1 o⟩
  · obtain ⟨kd, hk⟩ := hd.kind
    have hkf := not_tup hk (fun ds z => ht ⟨ds, z⟩)
    have tI : evTru (ev1 (oIsi .tup) (evVar 1)) [some (.loc fl), some d, none, none] S = some (false, S) := by
      refine evTru_of (d := .bl (isK kd .tup)) ?_ (by rw [hkf]; rfl)
      show (kindD d S).map _ = _
      rw [hk]; rfl
    have tJ := evNot_of tI
    have tW : evTru (evF f_law_is_whole (eaCons (evVar 1) (eaNil))) [some (.loc fl), some d, none, none] S = some (isW d, S) := evTru_of (d := .bl (isW d)) (evF_of (ea1 rfl) (f_is_whole_of hk)) rfl
    have odd : ∀ {S1}, Stp fl S S1 → evAnd (evTru (evF f_law_is_whole (eaCons (evVar 1) (eaNil)))) (evB (ev2 oGt (evF f_law_draw (eaCons (evVar 0) (eaCons (evC (.int 3)) (eaNil)))) (evC (.int 0)))) [some (.loc fl), some d, none, none] S = some (false, S1) → ∃ d' S', m_law_bent F (startD NB [.loc fl, d]) S = some (.rt d' S') ∧ Out fl S d d' S' := fun {S1} st hx => by
      obtain ⟨o, S2, eo, st2, sm⟩ := spec_odd st.fd
      exact ⟨o, S2, (sSeq_nx ((sIf_f (evAnd_f tI)).trans rfl)).trans (sSeq_rt ((sIf_t tJ).trans ((sSeq_nx ((sIf_f hx).trans rfl)).trans (sRet_of (evF_of (ea1 rfl) eo))))), out_odd (st.trans st2) (fun q hq => sm q fun i z => Nat.lt_of_lt_of_le (hq i z) st.len)⟩
    cases hw : isW d with
    | false =>
      rw [hw] at tW
      exact odd (Stp.refl h) (evAnd_f tW)
    | true =>
      rw [hw] at tW
      obtain ⟨i, rfl⟩ : ∃ i, d = .int i := by
        cases d with
        | int i => exact ⟨i, rfl⟩
        | _ => cases hw
      obtain ⟨r, S1, e1, hr, hl1, st1⟩ := spec_draw_nat (m := 3) h (by decide) (by decide)
      have tD : evB (ev2 oGt (evF f_law_draw (eaCons (evVar 0) (eaCons (evC (.int 3)) (eaNil)))) (evC (.int 0))) [some (.loc fl), some (.int i), none, none] S = some (decide (0 < (r : Int)), S1) := evB_of (ev2_of (evF_of (ea2 rfl rfl) e1) rfl rfl)
      by_cases h0 : 0 < (r : Int)
      · rw [decide_eq_true h0] at tD
        obtain ⟨j, S2, e2, hj, hl2, st2⟩ := spec_draw_nat (S := S1 ++ [.lst [.int (i + 1), .int (i - 1), .bl (decide (i = 1))]]) (m := 3) st1.fd.app (by decide) (by decide)
        have g : S2[S1.length]? = some (Cell.lst [.int (i + 1), .int (i - 1), .bl (decide (i = 1))]) := st2.get (by have := st1.fd.lt; omega) get_last
        have hj3 : j < 3 := by omega
        have hx : ([.int (i + 1), .int (i - 1), .bl (decide (i = 1))] : List D)[j]? = some (([.int (i + 1), .int (i - 1), .bl (decide (i = 1))] : List D)[j]'hj3) := List.getElem?_eq_getElem hj3
        refine ⟨([.int (i + 1), .int (i - 1), .bl (decide (i = 1))] : List D)[j]'hj3, S2, (sSeq_nx ((sIf_f (evAnd_f tI)).trans rfl)).trans (sSeq_rt ((sIf_t tJ).trans (sSeq_rt ((sIf_t ((evAnd_t tW).trans tD)).trans (sRet_of (ev2_of (evLst_of (ea3 rfl rfl rfl) (by show 3 ≤ 1000; decide)) (evF_of (ea2 rfl rfl) e2) ?_)))))), st1.trans ((Stp.app st1.fd).trans st2), fun q2 p B1 B2 hf hq hd2 h1 h2 => ?_⟩
        · rw [oIx_loc (.inl g), atI_nat hx]; rfl
        · cases hd2 with
          | int hi =>
          have h3 : j = 0 ∨ j = 1 ∨ j = 2 := by omega
          rcases h3 with rfl | rfl | rfl
          · exact ⟨_, .int (by omega), by simp [PyData.depth], by simp [PyData.bulk]⟩
          · exact ⟨_, .int (by omega), by simp [PyData.depth], by simp [PyData.bulk]⟩
          · exact ⟨_, .bl _, by simp [PyData.depth], by simp [PyData.bulk]⟩
      · rw [decide_eq_false h0] at tD
        exact odd st1 ((evAnd_t tW).trans tD)
def P_bent : List D → Store → D → Store → Prop := fun ds S d' S' => ds.length = 2 ∧ ∀ fl d, ds = [.loc fl, d] → Out fl S d d' S'
noncomputable def fr_law_bent : Nat → Fn
  | 0 => fNone
  | n + 1 => fSem (m_law_bent (fr_law_bent n)) NB P_bent
theorem spec_bent {fl B : Nat} {q : Nat → Prop} (hq0 : q fl) : ∀ (n : Nat) {S : Store} {d : D} {p : PyData}, Fd S fl → Dat S q B d p → p.depth ≤ n → p.depth ≤ 7 → p.bulk ≤ 450 → ∃ d' S', fr_law_bent (n + 1) [.loc fl, d] S = some (d', S') ∧ Out fl S d d' S' := by
  intro n
  induction n with
  | zero =>
    intro S d p h hd hn h7 hb
    obtain ⟨d', S', e, o⟩ := run_bent (F := fr_law_bent 0) (n := 0) hq0 (fun _ _ _ _ _ z _ _ => absurd z (Nat.not_lt_zero _)) h hd hn h7 hb
    obtain ⟨d1, S1, e1, _, hp⟩ := fSem_ex (P := P_bent) (Sem.rt e) ⟨rfl, fun fl' d'' z => by cases z; exact o⟩
    exact ⟨d1, S1, e1, hp fl d rfl⟩
  | succ n ih =>
    intro S d p h hd hn h7 hb
    obtain ⟨d', S', e, o⟩ := run_bent (F := fr_law_bent (n + 1)) (n := n + 1) hq0 (fun S1 d1 p1 f1 g1 z1 z3 z2 => ih f1 g1 (by omega) z3 z2) h hd hn h7 hb
    obtain ⟨d1, S1, e1, _, hp⟩ := fSem_ex (P := P_bent) (Sem.rt e) ⟨rfl, fun fl' d'' z => by cases z; exact o⟩
    exact ⟨d1, S1, e1, hp fl d rfl⟩
end Pw
set_option maxHeartbeats 1000000
namespace Pw
open PySem L2 Q2 Pf
/-! ### a def that tells one thing and leaves the store -/
noncomputable def fDet (m : Sv) (N : List Str) (k : Nat) (R : List D → D → Prop) : Fn := fSem m N fun ds S d S' => ds.length = k ∧ S' = S ∧ R ds d
theorem fDet_of {m : Sv} {N : List Str} {k : Nat} {R : List D → D → Prop} {ds : List D} {S : Store} {d : D} (h : Sem m N ds S d S) (hk : ds.length = k) (hR : R ds d) : ∃ d', fDet m N k R ds S = some (d', S) ∧ R ds d' := by
  obtain ⟨d', S', e, _, rfl, r⟩ := fSem_ex (P := fun ds S d S' => ds.length = k ∧ S' = S ∧ R ds d) h ⟨hk, rfl, hR⟩
  exact ⟨d', e, r⟩
open Classical in
theorem allL_of {S : Store} {σ : Sg} {G : Store → Prop} {tg : Tg} {te : Ev} (hG : ∀ S, G S) (f : D → Bool) : ∀ ds : List D, (∀ d ∈ ds, ∃ σ2, setD tg d σ = some σ2 ∧ te σ2 S = some (.bl (f d), S)) → allL G tg evYes te σ ds S = some (.bl (ds.all f), S)
  | [], _ => if_pos (hG _)
  | d :: ds, h => by
    obtain ⟨σ2, e1, e2⟩ := h d List.mem_cons_self
    have ih := allL_of (S := S) (σ := σ) hG f ds fun x hx => h x (List.mem_cons_of_mem _ hx)
    have e : allL G tg evYes te σ (d :: ds) S = (if G S then (setD tg d σ).bind fun σ2 => (evYes σ2 S).bind fun b => if b.1 = true then (te σ2 b.2).bind fun y => (match y.1 with
      | .bl true => allL G tg evYes te σ ds y.2
      | .bl false => some (.bl false, y.2)
      | _ => none) else allL G tg evYes te σ ds b.2 else none) := rfl
    rw [e, if_pos (hG _), e1]
    show ((te σ2 S).bind _) = _
    rw [e2]
    cases hw : f d with
    | true =>
      show allL G tg evYes te σ ds S = _
      rw [ih, List.all_cons, hw]; rfl
    | false =>
      show some (D.bl false, S) = _
      rw [List.all_cons, hw]; rfl
/-! ### rows -/
def nn : D → Bool
  | .int i => decide (0 ≤ i)
  | _ => false
def isRow : D → Bool
  | .tup ds => ds.all nn && (match ds.getLast? with
    | some (.int i) => !decide (i = 0)
    | _ => false)
  | _ => false
theorem nn_W {d : D} (h : nn d = true) : isW d = true := by
  cases d with
  | int i => rfl
  | _ => cases h
theorem isRow_snoc (ns : List Int) (x : Int) : isRow (.tup (zs (ns ++ [x]))) = ((zs (ns ++ [x])).all nn && !decide (x = 0)) := by
  show ((zs (ns ++ [x])).all nn && (match (zs (ns ++ [x])).getLast? with
    | some (.int i) => !decide (i = 0)
    | _ => false)) = _
  have e : (zs (ns ++ [x])).getLast? = some (.int x) := by unfold zs; simp
  rw [e]
def f_is_row : Fn := fn1 fun d S => if known d S = true then some (.bl (isRow d), S) else none
theorem f_is_row_of {d : D} {S : Store} (h : known d S = true) : f_is_row [d] S = some (.bl (isRow d), S) := if_pos h
/-! ### the law's own look -/
noncomputable def m_law_is_row : Sv := sSeq (sIf (evOr (evNot (evTru (ev1 (oIsi .tup) (evVar 0)))) (evB (ev2 oEq (evVar 0) (evTup (eaNil))))) (sRet (evC (.bl false))) (sSkip)) (sSeq (sIf (evTGc (evB (ev2 (oIn false) (evC (.bl false)) (evLC (evSeq (evVar 0)) (.nm 1) (evYes) (evAndT (evF f_law_is_whole (eaCons (evVar 1) (eaNil))) (ev2 oGe (evVar 1) (evC (.int 0)))) [1])))) (sRet (evC (.bl false))) (sSkip)) (sRet (ev2 oNe (ev2 oIx (evVar 0) (ev1 oNeg (evC (.int 1)))) (evC (.int 0)))))
noncomputable def f_law_is_row : Fn := fDet m_law_is_row ["_law_thing", "_law_one"] 1 fun ds d => ∀ x, ds = [x] → d = .bl (isRow x)
theorem eq_empty {S : Store} {q : Nat → Prop} {B : Nat} {ds : List D} {ps : List PyData} {σ : Sg} {i : Nat} (hd : DatL S q B ds ps) (h7 : (PyData.tuple ps).depth ≤ 7) (hσ : σ[i]? = some (some (.tup ds))) : evB (ev2 oEq (evVar i) (evTup (eaNil))) σ S = some (decide (ds = []), S) := by
  have v : evVar i σ S = some (.tup ds, S) := by unfold evVar; rw [hσ]; rfl
  have hd' : Dat S q B (.tup ds) (.tuple ps) := .tup hd
  have e : eqD (.tup ds) (.tup []) S = some (decide (ds = [])) := by
    show ((toP S 8 (D.tup ds)).bind fun p => (toP S 8 (D.tup [])).bind fun q => _) = _
    rw [hd'.toP 8 (by omega), show toP S 8 (D.tup []) = some (.tuple []) from rfl]
    refine (if_pos ⟨hd'.shaped (by omega), shaped_tup []⟩).trans ?_
    cases hd with
    | nil => simp [PyData.eqv, PyData.eqvAll]
    | cons _ _ => simp [PyData.eqv, PyData.eqvAll]
  refine evB_of (ev2_of v (evTup_of (show eaNil σ S = some ([], S) from rfl) (by show 0 ≤ 1000; decide)) ?_)
  show (eqD (.tup ds) (.tup []) S).map _ = _
  rw [e]; rfl
theorem spec_law_is_row {S : Store} {q : Nat → Prop} {B : Nat} {x : D} {p : PyData} (h : Dat S q B x p) (h7 : p.depth ≤ 7) (hb : p.bulk ≤ 1000) : f_law_is_row [x] S = some (.bl (isRow x), S) := by
  have fin : Sem m_law_is_row ["_law_thing", "_law_one"] [x] S (.bl (isRow x)) S → f_law_is_row [x] S = some (.bl (isRow x), S) := fun hs => by
    obtain ⟨d', e, hR⟩ := fDet_of (k := 1) (R := fun ds d => ∀ x, ds = [x] → d = .bl (isRow x)) hs rfl (fun y hy => by cases hy; rfl)
    rw [hR x rfl] at e
    exact e
  refine fin (Sem.rt ?_)
  obtain ⟨k, hx⟩ := h.kind
  have i := isTup_run (σ := [some x, none]) (S := S) rfl hx
  by_cases ht : ∃ ds, x = .tup ds
  · obtain ⟨ds, rfl⟩ := ht
    cases hx
    cases h with
    | @tup _ ps hd =>
    have t2 := eq_empty (σ := [some (.tup ds), none]) (i := 0) hd h7 rfl
    by_cases he : ds = []
    · subst he
      exact sSeq_rt ((sIf_t ((evOr_f i).trans t2)).trans rfl)
    · rw [decide_eq_false he] at t2
      refine (sSeq_nx ((sIf_f ((evOr_f i).trans t2)).trans rfl)).trans ?_
      have hl : ds.length ≤ 1000 := by rw [hd.length]; rw [bk_tup] at hb; exact Nat.le_trans (len_bulk ps) hb
      have w : evTGc (evB (ev2 (oIn false) (evC (.bl false)) (evLC (evSeq (evVar 0)) (.nm 1) (evYes) (evAndT (evF f_law_is_whole (eaCons (evVar 1) (eaNil))) (ev2 oGe (evVar 1) (evC (.int 0)))) [1]))) [some (.tup ds), none] S = some (!(ds.all nn), S) := by
        have it : evSeq (evVar 0) [some (.tup ds), none] S = some (ds.map id, S, grd (.tup ds) ds) := by
          rw [List.map_id]; rfl
        have lc := evLC_map (it := evSeq (evVar 0)) (tg := .nm 1) (te := evAndT (evF f_law_is_whole (eaCons (evVar 1) (eaNil))) (ev2 oGe (evVar 1) (evC (.int 0)))) (vs := [1]) (σ := [some (.tup ds), none]) (S := S) (S1 := S) (G := grd (.tup ds) ds) id (fun x => D.bl (nn x)) ds it (fun _ => trivial) (fun x hx => by
          obtain ⟨p', _, hq⟩ := hd.mem hx
          obtain ⟨k, ek⟩ := hq.kind
          refine ⟨[some (.tup ds), some x], rfl, fun acc => ?_⟩
          refine (evAndT_bl (evF_of (ea1 rfl) (f_is_whole_of (kind_app ek)))).trans ?_
          cases x with
          | int i => rfl
          | _ => rfl) (by omega)
        refine evTGc_app (U := [.lst (ds.map fun x => D.bl (nn x))]) (evB_of (ev2_of rfl lc ?_))
        exact oIn_bls get_last
      cases hn : ds.all nn with
      | false =>
        rw [hn] at w
        have hr : isRow (.tup ds) = false := by
          show (ds.all nn && _) = false
          rw [hn]; rfl
        rw [hr]
        exact sSeq_rt ((sIf_t w).trans rfl)
      | true =>
        rw [hn] at w
        refine (sSeq_nx ((sIf_f w).trans rfl)).trans (sRet_of ?_)
        obtain ⟨ns, rfl⟩ := allW_zs (show ds.all isW = true from List.all_eq_true.mpr fun x hx => nn_W (List.all_eq_true.mp hn x hx))
        obtain ⟨ms, y, rfl⟩ := snoc_of (show ns ≠ [] from fun z => he (by rw [z]; rfl))
        rw [isRow_snoc, hn]
        exact ev2_of (ev2_of rfl rfl (oIx_back ms y S)) rfl (ne_zero y S)
  · have e := not_tup hx (fun ds z => ht ⟨ds, z⟩)
    rw [e] at i
    have hp : isRow x = false := by
      cases x with
      | tup ds => exact absurd ⟨ds, rfl⟩ ht
      | _ => rfl
    rw [hp]
    exact sSeq_rt ((sIf_t (evOr_t i)).trans rfl)
/-! ### sums, products, one on -/
noncomputable def m_row_sum : Sv := sRet (evF fTuple (eaCons (evF f_added (eaCons (evVar 0) (eaCons (evVar 1) (eaNil)))) (eaNil)))
noncomputable def f_row_sum : Fn := fDet m_row_sum ["one", "other"] 2 fun ds d => ∀ a b, ds = [.tup (zs a), .tup (zs b)] → d = .tup (zs (addL a b))
theorem zs_inj {a b : List Int} (h : zs a = zs b) : a = b := (List.map_inj_right (fun _ _ e => by cases e; rfl)).mp h
theorem two_inj {a b a' b' : List Int} (h : ([.tup (zs a), .tup (zs b)] : List D) = [.tup (zs a'), .tup (zs b')]) : a = a' ∧ b = b' := by
  injection h with h1 h2
  injection h2 with h2 _
  injection h1 with h1
  injection h2 with h2
  exact ⟨zs_inj h1, zs_inj h2⟩
theorem spec_row_sum (a b : List Int) (S : Store) : f_row_sum [.tup (zs a), .tup (zs b)] S = some (.tup (zs (addL a b)), S) := by
  have s : Sem m_row_sum ["one", "other"] [.tup (zs a), .tup (zs b)] S (.tup (zs (addL a b))) S := by
    refine Sem.dropA (U := [.lst (zs (addL a b))]) (sRet_of (evF_of (ea1 (evF_of (ea2 rfl rfl) (f_added_ints a b S))) ?_)) (cl_ints _)
    show (itemsD (.loc S.length) (S ++ [Cell.lst (zs (addL a b))])).map _ = _
    rw [itemsD_of (.inl get_last)]; rfl
  obtain ⟨d', e, hR⟩ := fDet_of (k := 2) (R := fun ds d => ∀ a b, ds = [.tup (zs a), .tup (zs b)] → d = .tup (zs (addL a b))) s rfl (fun a' b' h => by obtain ⟨rfl, rfl⟩ := two_inj h; rfl)
  rw [hR a b rfl] at e
  exact e
noncomputable def f_row_product : Fn := f_poly_product
noncomputable def m_row_on : Sv := sRet (evTup (eaCons (evC (.int 0)) (eaStar (evVar 0) (eaNil))))
noncomputable def f_row_on : Fn := fDet m_row_on ["row"] 1 fun ds d => ∀ a, ds = [.tup a] → d = .tup (.int 0 :: a)
theorem spec_row_on (a : List D) (S : Store) (h : a.length ≤ 900) : f_row_on [.tup a] S = some (.tup (.int 0 :: a), S) := by
  have s : Sem m_row_on ["row"] [.tup a] S (.tup (.int 0 :: a)) S := by
    refine Sem.rt (sRet_of (evTup_of (eaCons_of rfl ?_) (by rw [List.length_cons]; omega)))
    show some (a ++ [], S) = _
    rw [List.append_nil]
  obtain ⟨d', e, hR⟩ := fDet_of (k := 1) (R := fun ds d => ∀ a, ds = [.tup a] → d = .tup (.int 0 :: a)) s rfl (fun a' h => by cases h; rfl)
  rw [hR a rfl] at e
  exact e
noncomputable def m_law_product : Sv := sSeq (sSet 2 (ev2 oMul (evLst (eaCons (evC (.int 0)) (eaNil))) (ev2 oSub (ev2 oAdd (evF fLen (eaCons (evVar 0) (eaNil))) (evF fLen (eaCons (evVar 1) (eaNil)))) (evC (.int 1))))) (sSeq (sFor (evRng (eaCons (evF fLen (eaCons (evVar 0) (eaNil))) (eaNil))) (.nm 3) (sFor (evRng (eaCons (evF fLen (eaCons (evVar 1) (eaNil))) (eaNil))) (.nm 4) (sPut (evVar 2) (ev2 oAdd (evVar 3) (evVar 4)) (ev2 oAdd (ev2 oIx (evVar 2) (ev2 oAdd (evVar 3) (evVar 4))) (ev2 oMul (ev2 oIx (evVar 0) (evVar 3)) (ev2 oIx (evVar 1) (evVar 4))))))) (sRet (evF fTuple (eaCons (evVar 2) (eaNil)))))
abbrev NP : List Str := ["_law_one", "_law_other", "_law_found", "_law_i", "_law_j"]
noncomputable def f_law_product : Fn := fDet m_law_product NP 2 fun ds d => ∀ a b, ds = [.tup (zs a), .tup (zs b)] → d = .tup (zs (mulL a b))
theorem spec_law_product {a b : List Int} {S : Store} (mk : MOk a b) (hn : ¬ (a = [] ∨ b = [])) : f_law_product [.tup (zs a), .tup (zs b)] S = some (.tup (zs (mulL a b)), S) := by
  obtain ⟨h1, h2, h3, h4⟩ := mk
  have hla : a.length ≠ 0 := fun z => hn (.inl (List.eq_nil_of_length_eq_zero z))
  have a1 : sSet 2 (ev2 oMul (evLst (eaCons (evC (.int 0)) (eaNil))) (ev2 oSub (ev2 oAdd (evF fLen (eaCons (evVar 0) (eaNil))) (evF fLen (eaCons (evVar 1) (eaNil)))) (evC (.int 1)))) [some (.tup (zs a)), some (.tup (zs b)), none, none, none] S = some (.nx [some (.tup (zs a)), some (.tup (zs b)), some (.loc (S ++ [Cell.lst [D.int 0]]).length), none, none] (S ++ [.lst [.int 0]] ++ [.lst (zs (List.replicate (a.length + b.length - 1) 0))])) := by
    have g : (S ++ [Cell.lst [D.int 0]])[S.length]? = some (Cell.lst [D.int 0]) := get_last
    have ej : (((zs a).length : Nat) : Int) + (((zs b).length : Nat) : Int) - 1 = ((a.length + b.length - 1 : Nat) : Int) := by rw [List.length_map, List.length_map]; omega
    show ((oMul (.loc S.length) (.int ((((zs a).length : Nat) : Int) + (((zs b).length : Nat) : Int) - 1)) (S ++ [Cell.lst [D.int 0]])).map _) = _
    rw [ej]
    unfold oMul
    dsimp only
    rw [g]
    dsimp only
    rw [if_pos ⟨by omega, by omega, by show 1 * _ ≤ _; omega⟩, Int.toNat_natCast, flat_rep]
    rfl
  obtain ⟨u, v, r⟩ := run_lmOut (S := S ++ [.lst [.int 0]]) (U := []) (G := fun _ => True) (fun _ => trivial) h1 h2 h4 a.length 0 (List.replicate (a.length + b.length - 1) 0) none none (by omega) (by rw [List.length_replicate]; omega)
  have em : mulL a b = mulAll b 0 (List.replicate (a.length + b.length - 1) 0) (a.drop 0) := by unfold mulL; rw [if_neg hn]; rfl
  rw [← em] at r
  have s : Sem m_law_product NP [.tup (zs a), .tup (zs b)] S (.tup (zs (mulL a b))) S := by
    refine Sem.dropA (U := [.lst [.int 0]] ++ [.lst (zs (mulL a b))]) ?_ (cl_ints _)
    refine (sSeq_nx a1).trans ((sSeq_nx ((sFor_of (lm_rng (a := a) 0 rfl h3)).trans r)).trans ?_)
    show (((itemsD (.loc (S ++ [Cell.lst [D.int 0]]).length) (S ++ [Cell.lst [D.int 0]] ++ [Cell.lst (zs (mulL a b))])).map fun xs => (D.tup xs, S ++ [Cell.lst [D.int 0]] ++ [Cell.lst (zs (mulL a b))])).map fun p => Fl.rt p.1 p.2) = _
    rw [itemsD_of (.inl get_last), List.append_assoc]; rfl
  obtain ⟨d', e, hR⟩ := fDet_of (k := 2) (R := fun ds d => ∀ a b, ds = [.tup (zs a), .tup (zs b)] → d = .tup (zs (mulL a b))) s rfl (fun a' b' h => by obtain ⟨rfl, rfl⟩ := two_inj h; rfl)
  rw [hR a b rfl] at e
  exact e
end Pw
set_option maxHeartbeats 1000000
namespace Pw
open PySem L2 Q2 Pf
/-! ### the law's own sum -/
noncomputable def m_law_plus : Sv := sSeq (sSet 2 (evF (fInt2 fun i j => if j > i then j else i) (eaCons (evF fLen (eaCons (evVar 0) (eaNil))) (eaCons (evF fLen (eaCons (evVar 1) (eaNil))) (eaNil))))) (sRet (evF fTuple (eaCons (evLC (evRng (eaCons (evVar 2) (eaNil))) (.nm 3) (evYes) (ev2 oAdd (ev2 oIx (ev2 oAdd2 (evVar 0) (ev2 oMul2 (evTup (eaCons (evC (.int 0)) (eaNil))) (evVar 2))) (evVar 3)) (ev2 oIx (ev2 oAdd2 (evVar 1) (ev2 oMul2 (evTup (eaCons (evC (.int 0)) (eaNil))) (evVar 2))) (evVar 3))) [3]) (eaNil))))
abbrev NQ : List Str := ["_law_one", "_law_other", "_law_size", "_law_k"]
noncomputable def f_law_plus : Fn := fDet m_law_plus NQ 2 fun ds d => ∀ a b, ds = [.tup (zs a), .tup (zs b)] → d = .tup (zs (addL a b))
theorem co_rep (a : List Int) (m k : Nat) : co (a ++ List.replicate m 0) k = co a k := by
  unfold co
  rw [List.getD_eq_getElem?_getD, List.getD_eq_getElem?_getD]
  by_cases h : k < a.length
  · rw [List.getElem?_append_left h]
  · rw [List.getElem?_append_right (by omega), List.getElem?_eq_none (l := a) (by omega), List.getElem?_replicate]
    split <;> rfl
theorem plus_at {a : List Int} {m k i : Nat} {σ : Sg} {S : Store} (hi : σ[i]? = some (some (.tup (zs a)))) (h2 : σ[2]? = some (some (.int ((m : Nat) : Int)))) (h3 : σ[3]? = some (some (.int ((k : Nat) : Int)))) (hm : 1 ≤ m) (hl : m ≤ 100) (ha : a.length ≤ 100) (hk : k < m) :
    ev2 oIx (ev2 oAdd2 (evVar i) (ev2 oMul2 (evTup (eaCons (evC (.int 0)) (eaNil))) (evVar 2))) (evVar 3) σ S = some (.int (co a k), S) := by
  have vi : evVar i σ S = some (.tup (zs a), S) := by unfold evVar; rw [hi]; rfl
  have v2 : evVar 2 σ S = some (.int ((m : Nat) : Int), S) := by unfold evVar; rw [h2]; rfl
  have v3 : evVar 3 σ S = some (.int ((k : Nat) : Int), S) := by unfold evVar; rw [h3]; rfl
  have e1 : ev2 oMul2 (evTup (eaCons (evC (.int 0)) (eaNil))) (evVar 2) σ S = some (.tup (zs (List.replicate m 0)), S) := by
    refine (ev2_of (show evTup (eaCons (evC (.int 0)) (eaNil)) σ S = some (.tup [.int 0], S) from rfl) v2 (if_pos ⟨by omega, by omega, ?_⟩)).trans ?_
    · rw [Int.toNat_natCast, flat_rep]
    · rw [Int.toNat_natCast]; show (0 + 1) * m ≤ 100000; omega
  have e2 : ev2 oAdd2 (evVar i) (ev2 oMul2 (evTup (eaCons (evC (.int 0)) (eaNil))) (evVar 2)) σ S = some (.tup (zs (a ++ List.replicate m 0)), S) := by
    refine (ev2_of vi e1 (oAdd2_tup ?_)).trans ?_
    · rw [List.length_map, List.length_map, List.length_replicate]; omega
    · unfold zs; rw [List.map_append]
  refine ev2_of e2 v3 ?_
  rw [oIx_tup (by rw [List.length_append, List.length_replicate]; omega), co_rep]
theorem spec_law_plus {a b : List Int} {S : Store} (ha : a ≠ []) (la : a.length ≤ 100) (lb : b.length ≤ 100) : f_law_plus [.tup (zs a), .tup (zs b)] S = some (.tup (zs (addL a b)), S) := by
  have hpos : 0 < a.length := List.length_pos_iff.mpr ha
  generalize hm : max a.length b.length = m
  have hm1 : 1 ≤ m := by omega
  have hm2 : m ≤ 100 := by omega
  have q1 : sSet 2 (evF (fInt2 fun i j => if j > i then j else i) (eaCons (evF fLen (eaCons (evVar 0) (eaNil))) (eaCons (evF fLen (eaCons (evVar 1) (eaNil))) (eaNil)))) [some (.tup (zs a)), some (.tup (zs b)), none, none] S = some (.nx [some (.tup (zs a)), some (.tup (zs b)), some (.int ((m : Nat) : Int)), none] S) := by
    refine (sSet_of (evF_of (ea2 (evF_of (ea1 rfl) rfl) (evF_of (ea1 rfl) rfl)) rfl)).trans ?_
    show some (Fl.nx [_, _, some (D.int (if ((zs b).length : Int) > ((zs a).length : Int) then ((zs b).length : Int) else ((zs a).length : Int))), none] S) = _
    rw [List.length_map, List.length_map]
    have : (if (b.length : Int) > (a.length : Int) then (b.length : Int) else (a.length : Int)) = ((m : Nat) : Int) := by
      split <;> omega
    rw [this]
  have it : evRng (eaCons (evVar 2) (eaNil)) [some (.tup (zs a)), some (.tup (zs b)), some (.int ((m : Nat) : Int)), none] S = some ((List.range m).map (fun (k : Nat) => D.int ((k : Nat) : Int)), S, fun _ => True) := by
    rw [evRng_one (ea1 rfl) (small_nat (by omega)), Int.toNat_natCast]
    unfold rangeD
    congr 2
    refine List.map_congr_left fun i _ => ?_
    rw [Int.zero_add]
  have lc := evLC_map (it := evRng (eaCons (evVar 2) (eaNil))) (tg := .nm 3) (te := ev2 oAdd (ev2 oIx (ev2 oAdd2 (evVar 0) (ev2 oMul2 (evTup (eaCons (evC (.int 0)) (eaNil))) (evVar 2))) (evVar 3)) (ev2 oIx (ev2 oAdd2 (evVar 1) (ev2 oMul2 (evTup (eaCons (evC (.int 0)) (eaNil))) (evVar 2))) (evVar 3))) (vs := [3]) (σ := [some (.tup (zs a)), some (.tup (zs b)), some (.int ((m : Nat) : Int)), none]) (S := S) (S1 := S) (G := fun _ => True) (fun (k : Nat) => D.int ((k : Nat) : Int)) (fun (k : Nat) => D.int (co a k + co b k)) (List.range m) it (fun _ => trivial) (fun k hk => by
    have hk := List.mem_range.mp hk
    refine ⟨[some (.tup (zs a)), some (.tup (zs b)), some (.int ((m : Nat) : Int)), some (.int ((k : Nat) : Int))], rfl, fun acc => ?_⟩
    exact ev2_of (plus_at (i := 0) rfl rfl rfl hm1 hm2 la hk) (plus_at (i := 1) rfl rfl rfl hm1 hm2 lb hk) rfl) (by rw [List.length_range]; omega)
  have er : (List.range m).map (fun (k : Nat) => D.int (co a k + co b k)) = zs (addL a b) := by
    rw [addL_range, hm]; unfold zs; rw [List.map_map]; rfl
  rw [er] at lc
  have s : Sem m_law_plus NQ [.tup (zs a), .tup (zs b)] S (.tup (zs (addL a b))) S := by
    refine Sem.dropA (U := [.lst (zs (addL a b))]) ((sSeq_nx q1).trans (sRet_of (evF_of (ea1 lc) ?_))) (cl_ints _)
    show (itemsD (.loc S.length) (S ++ [Cell.lst (zs (addL a b))])).map _ = _
    rw [itemsD_of (.inl get_last)]; rfl
  obtain ⟨d', e, hR⟩ := fDet_of (k := 2) (R := fun ds d => ∀ a b, ds = [.tup (zs a), .tup (zs b)] → d = .tup (zs (addL a b))) s rfl (fun a' b' h => by obtain ⟨rfl, rfl⟩ := two_inj h; rfl)
  rw [hR a b rfl] at e
  exact e
/-! ### great numbers -/
noncomputable def m_law_great : Sv := sSeq (sSet 1 (evC (.int 0))) (sSeq (sFor (evRng (eaCons (evC (.int 3)) (eaNil))) (.nm 2) (sSet 1 (ev2 oAdd (ev2 oMul (evVar 1) (ev2 oPow (evC (.int 10)) (evC (.int 5)))) (evF f_law_draw (eaCons (evVar 0) (eaCons (ev2 oPow (evC (.int 10)) (evC (.int 5))) (eaNil))))))) (sRet (evVar 1)))
def P_great : List D → Store → D → Store → Prop := fun ds S d S' => ds.length = 1 ∧ ∀ fl, ds = [.loc fl] → Stp fl S S' ∧ ∃ g : Int, d = .int g ∧ 0 ≤ g ∧ g < 10 ^ 15
noncomputable def f_law_great : Fn := fSem m_law_great ["_law_feed_here", "_law_found", "_law_k"] P_great
theorem sem_law_great : ∀ ds S d S', f_law_great ds S = some (d, S') → Sem m_law_great ["_law_feed_here", "_law_found", "_law_k"] ds S d S' := fun _ _ _ _ e => (fSem_both e).1
theorem ar_law_great : ∀ ds S r, f_law_great ds S = some r → ds.length = 1 := fun _ _ _ e => (fSem_both e).2.1
theorem p5 : ∀ (σ : Sg) (S : Store), ev2 oPow (evC (.int 10)) (evC (.int 5)) σ S = some (.int 100000, S) := fun σ S => ev2_of rfl rfl (oPow_ints ⟨by decide, by decide, by decide⟩)
theorem great_step {S : Store} {fl : Nat} {g : Int} {u : Option D} (h : Fd S fl) (h0 : 0 ≤ g) (h1 : g < 10 ^ 12) : ∃ r S', 0 ≤ r ∧ r < 100000 ∧ Stp fl S S' ∧ sSet 1 (ev2 oAdd (ev2 oMul (evVar 1) (ev2 oPow (evC (.int 10)) (evC (.int 5)))) (evF f_law_draw (eaCons (evVar 0) (eaCons (ev2 oPow (evC (.int 10)) (evC (.int 5))) (eaNil))))) [some (.loc fl), some (.int g), u] S = some (.nx [some (.loc fl), some (.int (g * 100000 + r)), u] S') := by
  obtain ⟨r, S', e, r0, r1, _, st⟩ := spec_draw (m := 100000) h (by decide) (by decide)
  exact ⟨r, S', r0, r1, st, sSet_of (ev2_of (ev2_of rfl (p5 _ _) (oMul_ints (mulC_r (by decide)))) (evF_of (ea2 rfl (p5 _ _)) e) rfl)⟩
theorem spec_great {S : Store} {fl : Nat} (h : Fd S fl) : ∃ g S', f_law_great [.loc fl] S = some (.int g, S') ∧ Stp fl S S' ∧ 0 ≤ g ∧ g < 10 ^ 15 := by
  obtain ⟨r1, S1, a1, b1, st1, e1⟩ := great_step (g := 0) (u := some (.int 0)) h (by decide) (by decide)
  obtain ⟨r2, S2, a2, b2, st2, e2⟩ := great_step (g := 0 * 100000 + r1) (u := some (.int 1)) st1.fd (by omega) (by omega)
  obtain ⟨r3, S3, a3, b3, st3, e3⟩ := great_step (g := (0 * 100000 + r1) * 100000 + r2) (u := some (.int 2)) st2.fd (by omega) (by omega)
  have it : evRng (eaCons (evC (.int 3)) (eaNil)) [some (.loc fl), some (.int 0), none] S = some ([.int 0, .int 1, .int 2], S, fun _ => True) := rfl
  have run : m_law_great (startD ["_law_feed_here", "_law_found", "_law_k"] [.loc fl]) S = some (.rt (.int (((0 * 100000 + r1) * 100000 + r2) * 100000 + r3)) S3) := by
    refine (sSeq_nx (show sSet 1 (evC (.int 0)) [some (.loc fl), none, none] S = some (.nx [some (.loc fl), some (.int 0), none] S) from rfl)).trans ?_
    refine (sSeq_nx ((sFor_of it).trans ((forL_cons trivial rfl e1).trans ((forL_cons trivial rfl e2).trans ((forL_cons trivial rfl e3).trans (forL_nil trivial)))))).trans rfl
  obtain ⟨d, S', e, _, hp⟩ := fSem_ex (P := P_great) (Sem.rt run) ⟨rfl, fun fl' z => by cases z; exact ⟨(st1.trans st2).trans st3, _, rfl, by omega, by omega⟩⟩
  obtain ⟨st, g, rfl, g0, g1⟩ := hp fl rfl
  exact ⟨g, S', e, st, g0, g1⟩
/-! ### a row is drawn -/
noncomputable def m_law_drawn_row : Sv := sSeq (sSet 1 (evLst (eaNil))) (sSeq (sFor (evRng (eaCons (evF f_law_draw (eaCons (evVar 0) (eaCons (evC (.int 9)) (eaNil)))) (eaNil))) (.nm 2) (sExpr (evM fAppend (evVar 1) (eaCons (ev2 oIx (evLst (eaCons (evC (.int 0)) (eaCons (evC (.int 1)) (eaCons (evF f_law_draw (eaCons (evVar 0) (eaCons (evC (.int 100)) (eaNil)))) (eaCons (ev2 oPow (evF f_law_great (eaCons (evVar 0) (eaNil))) (evC (.int 2))) (eaNil)))))) (evF f_law_draw (eaCons (evVar 0) (eaCons (evC (.int 4)) (eaNil))))) (eaNil))))) (sRet (ev2 oAdd2 (evF fTuple (eaCons (evVar 1) (eaNil))) (evTup (eaCons (ev2 oAdd (evC (.int 1)) (evF f_law_draw (eaCons (evVar 0) (eaCons (evC (.int 9)) (eaNil))))) (eaNil))))))
def RowOk (ns : List Int) : Prop := ns ≠ [] ∧ ns.length ≤ 9 ∧ ∀ n ∈ ns, n.natAbs ≤ 10 ^ 30
def P_row : List D → Store → D → Store → Prop := fun ds S d S' => ds.length = 1 ∧ ∀ fl, ds = [.loc fl] → Stp fl S S' ∧ ∃ ns, d = .tup (zs ns) ∧ RowOk ns
noncomputable def f_law_drawn_row : Fn := fSem m_law_drawn_row ["_law_feed_here", "_law_found", "_law_k"] P_row
noncomputable abbrev rowStep : Sv := sExpr (evM fAppend (evVar 1) (eaCons (ev2 oIx (evLst (eaCons (evC (.int 0)) (eaCons (evC (.int 1)) (eaCons (evF f_law_draw (eaCons (evVar 0) (eaCons (evC (.int 100)) (eaNil)))) (eaCons (ev2 oPow (evF f_law_great (eaCons (evVar 0) (eaNil))) (evC (.int 2))) (eaNil)))))) (evF f_law_draw (eaCons (evVar 0) (eaCons (evC (.int 4)) (eaNil))))) (eaNil)))
theorem append_at {S : Store} {n : Nat} {xs : List D} {x : D} (h : S[n]? = some (Cell.lst xs)) (hl : xs.length < 100000) : fAppend (.loc n) [x] S = some (.non, S.set n (.lst (xs ++ [x]))) := by
  show (match S[n]? with
    | some (Cell.lst xs) => if xs.length < 100000 then some (D.non, S.set n (.lst (xs ++ [x]))) else none
    | _ => none) = _
  rw [h]
  exact if_pos hl
theorem row_step {S0 S : Store} {fl L : Nat} {acc : List Int} {u : Option D} (st : Stp fl S0 S) (hf : fl < L) (hL : S0.length ≤ L) (h : S[L]? = some (Cell.lst (zs acc))) (hl : acc.length < 100) : ∃ x S', x.natAbs ≤ 10 ^ 30 ∧ Stp fl S0 S' ∧ S'[L]? = some (Cell.lst (zs (acc ++ [x]))) ∧ rowStep [some (.loc fl), some (.loc L), u] S = some (.nx [some (.loc fl), some (.loc L), u] S') := by
  obtain ⟨a, S1, e1, a0, a1, _, st1⟩ := spec_draw (m := 100) st.fd (by decide) (by decide)
  obtain ⟨g, S2, e2, st2, g0, g1⟩ := spec_great st1.fd
  have pw : g ^ (2 : Int).toNat = g * g := by show g ^ 2 = g * g; rw [Int.pow_succ, Int.pow_succ, Int.pow_zero, Int.one_mul]
  have gg : (g * g).natAbs ≤ 10 ^ 30 := by
    rw [Int.natAbs_mul]
    have : g.natAbs ≤ 10 ^ 15 := by omega
    exact Nat.le_trans (Nat.mul_le_mul this this) (by decide)
  obtain ⟨r, S3, e3, hr, _, st3⟩ := spec_draw_nat (S := S2 ++ [.lst (zs [0, 1, a, g * g])]) (m := 4) st2.fd.app (by decide) (by decide)
  have hr' : r < [0, 1, a, g * g].length := by show r < 4; omega
  have gS : S3[S2.length]? = some (Cell.lst (zs [0, 1, a, g * g])) := st3.get (by have := st2.fd.lt; omega) get_last
  have stA : Stp fl S S3 := ((st1.trans st2).trans (Stp.app st2.fd)).trans st3
  have gL : S3[L]? = some (Cell.lst (zs acc)) := stA.get (by omega) h
  have items : ([0, 1, a, g * g] : List Int)[r]? = some (([0, 1, a, g * g] : List Int)[r]'hr') := List.getElem?_eq_getElem hr'
  refine ⟨([0, 1, a, g * g] : List Int)[r]'hr', S3.set L (.lst (zs (acc ++ [([0, 1, a, g * g] : List Int)[r]'hr']))), ?_, (st.trans stA).wr hf hL, get_set gL, ?_⟩
  · have hm := List.getElem_mem hr'
    simp only [List.mem_cons, List.not_mem_nil, or_false] at hm
    rcases hm with hm | hm | hm | hm <;> rw [hm]
    · decide
    · decide
    · omega
    · exact gg
  · have ev : ev2 oIx (evLst (eaCons (evC (.int 0)) (eaCons (evC (.int 1)) (eaCons (evF f_law_draw (eaCons (evVar 0) (eaCons (evC (.int 100)) (eaNil)))) (eaCons (ev2 oPow (evF f_law_great (eaCons (evVar 0) (eaNil))) (evC (.int 2))) (eaNil)))))) (evF f_law_draw (eaCons (evVar 0) (eaCons (evC (.int 4)) (eaNil)))) [some (.loc fl), some (.loc L), u] S = some (.int (([0, 1, a, g * g] : List Int)[r]'hr'), S3) := by
      refine ev2_of (S1 := S2 ++ [.lst (zs [0, 1, a, g * g])]) (evLst_of (ea4 rfl rfl (evF_of (ea2 rfl rfl) e1) ?_) (by show 4 ≤ 1000; decide)) (evF_of (ea2 rfl rfl) e3) ?_
      · refine (ev2_of (evF_of (ea1 rfl) e2) rfl (oPow_ints ⟨by decide, by decide, by omega⟩)).trans ?_
        rw [pw]
      · rw [oIx_loc (.inl gS), atI_ints items]; rfl
    refine sExpr_of (d := .non) (evM_of rfl (ea1 ev) ?_)
    rw [append_at gL (by rw [List.length_map]; omega)]
    congr 4
    exact (List.map_append (f := D.int) (l₁ := acc) (l₂ := [_])).symm
theorem row_loop {S0 : Store} {fl L : Nat} (hf : fl < L) (hL : S0.length ≤ L) {G : Store → Prop} (hG : ∀ S, G S) : ∀ (items : List D) (S : Store) (acc : List Int) (u : Option D), Stp fl S0 S → S[L]? = some (Cell.lst (zs acc)) → acc.length + items.length ≤ 100 → (∀ n ∈ acc, n.natAbs ≤ 10 ^ 30) →
    ∃ S' acc' u', forL G (.nm 2) rowStep items [some (.loc fl), some (.loc L), u] S = some (.nx [some (.loc fl), some (.loc L), u'] S') ∧ Stp fl S0 S' ∧ S'[L]? = some (Cell.lst (zs acc')) ∧ acc'.length = acc.length + items.length ∧ ∀ n ∈ acc', n.natAbs ≤ 10 ^ 30
  | [], S, acc, u, st, h, _, ha => ⟨S, acc, u, forL_nil (hG _), st, h, rfl, ha⟩
  | d :: items, S, acc, u, st, h, hl, ha => by
    rw [List.length_cons] at hl
    obtain ⟨x, S1, hx, st1, h1, e1⟩ := row_step (u := some d) st hf hL h (by omega)
    obtain ⟨S', acc', u', e2, st2, h2, l2, ha2⟩ := row_loop hf hL hG items S1 (acc ++ [x]) (some d) st1 h1 (by rw [List.length_append, List.length_singleton]; omega) (fun n hn => by
      rcases List.mem_append.mp hn with hn | hn
      · exact ha n hn
      · rw [List.mem_singleton] at hn; rw [hn]; exact hx)
    refine ⟨S', acc', u', (forL_cons (hG _) rfl e1).trans e2, st2, h2, ?_, ha2⟩
    rw [l2, List.length_append, List.length_singleton, List.length_cons]; omega
theorem spec_row {S : Store} {fl : Nat} (h : Fd S fl) : ∃ ns S', f_law_drawn_row [.loc fl] S = some (.tup (zs ns), S') ∧ Stp fl S S' ∧ RowOk ns := by
  have q0 : sSet 1 (evLst (eaNil)) [some (.loc fl), none, none] S = some (.nx [some (.loc fl), some (.loc S.length), none] (S ++ [.lst (zs [])])) := rfl
  obtain ⟨r, S1, e1, hr, hl1, st1⟩ := spec_draw_nat (S := S ++ [.lst (zs [])]) (m := 9) h.app (by decide) (by decide)
  have stA : Stp fl S S1 := (Stp.app h).trans st1
  have hfl := h.lt
  have g1 : S1[S.length]? = some (Cell.lst (zs [])) := st1.get (by omega) get_last
  have it : evRng (eaCons (evF f_law_draw (eaCons (evVar 0) (eaCons (evC (.int 9)) (eaNil)))) (eaNil)) [some (.loc fl), some (.loc S.length), none] (S ++ [.lst (zs [])]) = some (rangeD 0 r, S1, fun _ => True) := by
    rw [evRng_one (ea1 (evF_of (ea2 rfl rfl) e1)) (small_nat (by omega)), Int.toNat_natCast]
  obtain ⟨S2, acc, u, e2, st2, g2, l2, ha⟩ := row_loop (S0 := S) (fl := fl) (L := S.length) hfl (Nat.le_refl _) (G := fun _ => True) (fun _ => trivial) (rangeD 0 r) S1 [] none stA g1 (by rw [rangeD_len]; show 0 + r ≤ 100; omega) (fun _ h => nomatch h)
  rw [rangeD_len] at l2
  obtain ⟨k, S3, e3, hk, hl3, st3⟩ := spec_draw_nat (m := 9) st2.fd (by decide) (by decide)
  have run : m_law_drawn_row (startD ["_law_feed_here", "_law_found", "_law_k"] [.loc fl]) S = some (.rt (.tup (zs (acc ++ [1 + (k : Int)]))) S3) := by
    refine (sSeq_nx q0).trans ((sSeq_nx ((sFor_of it).trans e2)).trans (sRet_of ?_))
    have t1 : evF fTuple (eaCons (evVar 1) (eaNil)) [some (.loc fl), some (.loc S.length), u] S2 = some (.tup (zs acc), S2) := by
      refine evF_of (ea1 rfl) ?_
      show (itemsD (.loc S.length) S2).map _ = _
      rw [itemsD_of (.inl g2)]; rfl
    refine (ev2_of t1 (evTup_of (ea1 (ev2_of rfl (evF_of (ea2 rfl rfl) e3) rfl)) (by show 1 ≤ 1000; decide)) (oAdd2_tup ?_)).trans ?_
    · rw [List.length_map]; show _ + 1 ≤ 1000; rw [l2]; simp; omega
    · congr 3
      exact (List.map_append (f := D.int) (l₁ := acc) (l₂ := [_])).symm
  have ok : RowOk (acc ++ [1 + (k : Int)]) := by
    refine ⟨by simp, by rw [List.length_append, List.length_singleton, l2]; simp; omega, fun n hn => ?_⟩
    rcases List.mem_append.mp hn with hn | hn
    · exact ha n hn
    · rw [List.mem_singleton] at hn; rw [hn]; omega
  obtain ⟨d, S', e, _, hp⟩ := fSem_ex (P := P_row) (Sem.rt run) ⟨rfl, fun fl' z => by cases z; exact ⟨st2.trans st3, _, rfl, ok⟩⟩
  obtain ⟨st, ns, rfl, ok⟩ := hp fl rfl
  exact ⟨ns, S', e, st, ok⟩
end Pw
set_option maxHeartbeats 1000000
namespace Pw
open PySem L2 Q2 Pf
noncomputable abbrev f_law_bent : Fn := fr_law_bent 2
noncomputable def m_law : Sv := sSeq (sSet 1 (evF f_law_feed (eaCons (evVar 0) (eaNil)))) (sSeq (sSet 2 (evLC (evRng (eaCons (evC (.int 5)) (eaNil))) (.nm 3) (evYes) (evF f_law_drawn_row (eaCons (evVar 1) (eaNil))) [3])) (sSeq (sSet 4 (ev2 oAdd (evVar 2) (evLst (eaCons (evTup (eaNil)) (eaCons (evTup (eaCons (evC (.int 0)) (eaNil))) (eaCons (evTup (eaCons (evC (.int 1)) (eaNil))) (eaCons (evTup (eaCons (evC (.int 0)) (eaCons (evC (.int 1)) (eaNil)))) (eaCons (evTup (eaCons (evC (.int 1)) (eaCons (evC (.int 0)) (eaNil)))) (eaCons (evTup (eaCons (evC (.bl true)) (eaNil))) (eaCons (evLst (eaCons (evC (.int 1)) (eaNil))) (eaCons (evTup (eaCons (evC (.int 1)) (eaCons (ev1 oNeg (evC (.int 1))) (eaCons (evC (.int 1)) (eaNil))))) (eaCons (evTup (eaCons (ev1 oNeg (evC (.int 1))) (eaNil))) (eaCons (evTup (eaCons (evC (.int 1)) (eaCons (evC .non) (eaNil)))) (eaCons (evTup (eaCons (evC (.bl true)) (eaCons (evC (.int 1)) (eaNil)))) (eaCons (evTup (eaCons (evC (.str "1")) (eaNil))) (eaNil)))))))))))))))) (sSeq (sFor (evRng (eaCons (evC (.int 12)) (eaNil))) (.nm 3) (sSeq (sExpr (evM fAppend (evVar 4) (eaCons (evF f_law_bent (eaCons (evVar 1) (eaCons (ev2 oIx (evVar 2) (ev2 oMod (evVar 3) (evC (.int 5)))) (eaNil)))) (eaNil)))) (sExpr (evM fAppend (evVar 4) (eaCons (evF f_law_odd (eaCons (evVar 1) (eaNil))) (eaNil)))))) (sSeq (sFor (evSeq (ev2 oAdd (evVar 4) (evVar 2))) (.nm 5) (sSeq (sSet 6 (evF fRepr (eaCons (evVar 5) (eaNil)))) (sIf (evOr (evB (ev2 oNe (evF fRepr (eaCons (evF f_is_row (eaCons (evVar 5) (eaNil))) (eaNil))) (evF fRepr (eaCons (evF f_law_is_row (eaCons (evVar 5) (eaNil))) (eaNil))))) (evB (ev2 oNe (evF fRepr (eaCons (evVar 5) (eaNil))) (evVar 6)))) (sRet (evC (.bl false))) (sSkip)))) (sSeq (sFor (evRng (eaCons (evC (.int 5)) (eaNil))) (.nm 3) (sSeq (sPar 7 8 (eaCons (ev2 oIx (evVar 2) (evVar 3)) (eaCons (ev2 oIx (evVar 2) (evF f_law_draw (eaCons (evVar 1) (eaCons (evC (.int 5)) (eaNil))))) (eaNil)))) (sSeq (sSet 6 (evF fRepr (eaCons (evTup (eaCons (evVar 7) (eaCons (evVar 8) (eaNil)))) (eaNil)))) (sSeq (sIf (evB (ev2 oNe (evF fRepr (eaCons (evF f_row_sum (eaCons (evVar 7) (eaCons (evVar 8) (eaNil)))) (eaNil))) (evF fRepr (eaCons (evF f_law_plus (eaCons (evVar 7) (eaCons (evVar 8) (eaNil)))) (eaNil))))) (sRet (evC (.bl false))) (sSkip)) (sSeq (sIf (evB (ev2 oNe (evF fRepr (eaCons (evF f_row_product (eaCons (evVar 7) (eaCons (evVar 8) (eaNil)))) (eaNil))) (evF fRepr (eaCons (evF f_law_product (eaCons (evVar 7) (eaCons (evVar 8) (eaNil)))) (eaNil))))) (sRet (evC (.bl false))) (sSkip)) (sIf (evOr (evB (ev2 oNe (evF fRepr (eaCons (evF f_row_on (eaCons (evVar 7) (eaNil))) (eaNil))) (evF fRepr (eaCons (ev2 oAdd2 (evTup (eaCons (evC (.int 0)) (eaNil))) (evVar 7)) (eaNil))))) (evB (ev2 oNe (evF fRepr (eaCons (evTup (eaCons (evVar 7) (eaCons (evVar 8) (eaNil)))) (eaNil))) (evVar 6)))) (sRet (evC (.bl false))) (sSkip))))))) (sRet (evC (.bl true))))))))
abbrev NL : List Str := ["_law_script", "_law_feed_here", "_law_some", "_law_k", "_law_things", "_law_thing", "_law_kept", "_law_one", "_law_other"]
noncomputable def f_law : Fn := fLaw
/-! ### five rows -/
theorem rows_loop {S0 : Store} {fl L : Nat} (hf : fl < L) (hL : S0.length ≤ L) {G : Store → Prop} (hG : ∀ S, G S) {σ : Sg} (hσ : ∀ d, ∃ σ2, setD (.nm 3) d σ = some σ2 ∧ σ2[1]? = some (some (.loc fl))) : ∀ (items : List D) (S : Store) (acc : List (List Int)), Stp fl S0 S → S[L]? = some (Cell.lst (ts acc)) → acc.length + items.length ≤ 100 → (∀ n ∈ acc, RowOk n) →
    ∃ S' acc', lcL G (.nm 3) evYes (evF f_law_drawn_row (eaCons (evVar 1) (eaNil))) σ L items S = some S' ∧ Stp fl S0 S' ∧ S'[L]? = some (Cell.lst (ts acc')) ∧ acc'.length = acc.length + items.length ∧ ∀ n ∈ acc', RowOk n
  | [], S, acc, st, h, _, ha => ⟨S, acc, lcL_nil (hG _), st, h, rfl, ha⟩
  | d :: items, S, acc, st, h, hl, ha => by
    rw [List.length_cons] at hl
    obtain ⟨ns, S1, e1, st1, ok⟩ := spec_row st.fd
    obtain ⟨σ2, s1, s2⟩ := hσ d
    have v : evVar 1 σ2 S = some (.loc fl, S) := by unfold evVar; rw [s2]; rfl
    have h1 : S1[L]? = some (Cell.lst (ts acc)) := st1.get (by omega) h
    have st2 := (st.trans st1).wr (c := .lst (ts acc ++ [.tup (zs ns)])) hf hL
    have e3 : ts acc ++ [.tup (zs ns)] = ts (acc ++ [ns]) := (List.map_append (l₁ := acc) (l₂ := [ns])).symm
    have h2 : (S1.set L (.lst (ts acc ++ [.tup (zs ns)])))[L]? = some (Cell.lst (ts (acc ++ [ns]))) := by rw [← e3]; exact get_set h1
    obtain ⟨S', acc', e4, st4, h4, l4, ha4⟩ := rows_loop hf hL hG hσ items _ (acc ++ [ns]) st2 h2 (by rw [List.length_append, List.length_singleton]; omega) (fun n hn => by
      rcases List.mem_append.mp hn with hn | hn
      · exact ha n hn
      · rw [List.mem_singleton] at hn; rw [hn]; exact ok)
    refine ⟨S', acc', (lcL_cons (hG _) s1 (evF_of (ea1 v) e1) h1 (by rw [List.length_map]; omega)).trans e4, st4, h4, ?_, ha4⟩
    rw [l4, List.length_append, List.length_singleton, List.length_cons]; omega
/-! ### things -/
abbrev fixed (n : Nat) : List D := [.tup [], .tup [.int 0], .tup [.int 1], .tup [.int 0, .int 1], .tup [.int 1, .int 0], .tup [.bl true], .loc n, .tup [.int 1, .int (-1), .int 1], .tup [.int (-1)], .tup [.int 1, .non], .tup [.bl true, .int 1], .tup [.str "1"]]
def Gd (S : Store) (q : Nat → Prop) (d : D) : Prop := Sml S q (10 ^ 39) d 4 60
theorem Gd.mono {S S' : Store} {q : Nat → Prop} {d : D} (a : ∀ i c, ¬ q i → S[i]? = some c → S'[i]? = some c) (h : Gd S q d) : Gd S' q d := by
  obtain ⟨p, h1, h2⟩ := h
  exact ⟨p, h1.mono a, h2⟩
theorem gd_row {S : Store} {q : Nat → Prop} {ns : List Int} (h : RowOk ns) : Gd S q (.tup (zs ns)) := by
  obtain ⟨h1, h2, h3⟩ := h
  obtain ⟨a, b, c⟩ := sml_ints (S := S) (q := q) (B := 10 ^ 39) (ns := ns) (fun n hn => Nat.le_trans (h3 n hn) (by decide))
  exact ⟨_, a, by omega, by omega⟩
theorem fixed_gd {S : Store} {q : Nat → Prop} {n : Nat} (h : S[n]? = some (Cell.lst [.int 1])) (hn : ¬ q n) : ∀ d ∈ fixed n, Gd S q d := by
  intro d hd
  have one : Dat S q (10 ^ 39) (.int 1) (.int 1) := .int (by decide)
  have zero : Dat S q (10 ^ 39) (.int 0) (.int 0) := .int (by decide)
  have mone : Dat S q (10 ^ 39) (.int (-1)) (.int (-1)) := .int (by decide)
  have s1 := tx_one.rp.dp
  have s2 := tx_one.rp.bk
  simp only [List.mem_cons, List.not_mem_nil, or_false] at hd
  rcases hd with rfl | rfl | rfl | rfl | rfl | rfl | rfl | rfl | rfl | rfl | rfl | rfl
  · exact ⟨_, .tup .nil, by simp [PyData.depth, PyData.depthAll], by simp [PyData.bulk, PyData.bulkAll]⟩
  · exact ⟨_, .tup (.cons zero .nil), by simp [PyData.depth, PyData.depthAll], by simp [PyData.bulk, PyData.bulkAll]⟩
  · exact ⟨_, .tup (.cons one .nil), by simp [PyData.depth, PyData.depthAll], by simp [PyData.bulk, PyData.bulkAll]⟩
  · exact ⟨_, .tup (.cons zero (.cons one .nil)), by simp [PyData.depth, PyData.depthAll], by simp [PyData.bulk, PyData.bulkAll]⟩
  · exact ⟨_, .tup (.cons one (.cons zero .nil)), by simp [PyData.depth, PyData.depthAll], by simp [PyData.bulk, PyData.bulkAll]⟩
  · exact ⟨_, .tup (.cons (.bl _) .nil), by simp [PyData.depth, PyData.depthAll], by simp [PyData.bulk, PyData.bulkAll]⟩
  · exact ⟨_, .loc hn h (.cons one .nil), by simp [PyData.depth, PyData.depthAll], by simp [PyData.bulk, PyData.bulkAll]⟩
  · exact ⟨_, .tup (.cons one (.cons mone (.cons one .nil))), by simp [PyData.depth, PyData.depthAll], by simp [PyData.bulk, PyData.bulkAll]⟩
  · exact ⟨_, .tup (.cons mone .nil), by simp [PyData.depth, PyData.depthAll], by simp [PyData.bulk, PyData.bulkAll]⟩
  · exact ⟨_, .tup (.cons one (.cons .non .nil)), by simp [PyData.depth, PyData.depthAll], by simp [PyData.bulk, PyData.bulkAll]⟩
  · exact ⟨_, .tup (.cons (.bl _) (.cons one .nil)), by simp [PyData.depth, PyData.depthAll], by simp [PyData.bulk, PyData.bulkAll]⟩
  · refine ⟨_, .tup (.cons (.str tx_one) .nil), ?_, ?_⟩
    · rw [dp_tup, dp_one]; omega
    · rw [bk_tup, bk_one]; omega
noncomputable abbrev stepA : Sv := sExpr (evM fAppend (evVar 4) (eaCons (evF f_law_bent (eaCons (evVar 1) (eaCons (ev2 oIx (evVar 2) (ev2 oMod (evVar 3) (evC (.int 5)))) (eaNil)))) (eaNil)))
noncomputable abbrev stepB : Sv := sExpr (evM fAppend (evVar 4) (eaCons (evF f_law_odd (eaCons (evVar 1) (eaNil))) (eaNil)))
structure LInv (S0 : Store) (fl L2 L4 : Nat) (rows : List (List Int)) (things : List D) (S : Store) : Prop where
  st : Stp fl S0 S
  some_ : S[L2]? = some (Cell.lst (ts rows))
  all_ : S[L4]? = some (Cell.lst things)
  gd : ∀ d ∈ things, Gd S (fun i => i = fl ∨ i = L4) d
theorem add_step {S0 S S1 : Store} {fl L2 L4 : Nat} {rows : List (List Int)} {things : List D} {x : D} (h4 : fl < L4) (hL : S0.length ≤ L4) (h2 : L2 ≠ fl) (h24 : L2 ≠ L4) (I : LInv S0 fl L2 L4 rows things S) (st : Stp fl S S1) (hx : Gd S1 (fun i => i = fl ∨ i = L4) x) (hl : things.length < 1000) :
    fAppend (.loc L4) [x] S1 = some (.non, S1.set L4 (.lst (things ++ [x]))) ∧ LInv S0 fl L2 L4 rows (things ++ [x]) (S1.set L4 (.lst (things ++ [x]))) := by
  have g4 : S1[L4]? = some (Cell.lst things) := st.get (by omega) I.all_
  refine ⟨append_at g4 (by omega), (I.st.trans st).wr h4 hL, ?_, get_set g4, fun d hd => ?_⟩
  · rw [List.getElem?_set_ne (fun z => h24 z.symm)]; exact st.get h2 I.some_
  · refine Gd.mono (set_ok (.inr rfl)) ?_
    rcases List.mem_append.mp hd with hd | hd
    · exact (I.gd d hd).mono (st.ok (.inl rfl))
    · rw [List.mem_singleton] at hd; rw [hd]; exact hx
theorem two_steps {S0 S : Store} {fl L2 L4 k : Nat} {rows : List (List Int)} {things : List D} {u0 u5 u6 u7 u8 : Option D} (h4 : fl < L4) (hL : S0.length ≤ L4) (h2 : L2 ≠ fl) (h24 : L2 ≠ L4) (I : LInv S0 fl L2 L4 rows things S) (hr : rows.length = 5) (ok : ∀ n ∈ rows, RowOk n) (hl : things.length < 900) :
    ∃ S' ths, sSeq stepA stepB [u0, some (.loc fl), some (.loc L2), some (.int (k : Int)), some (.loc L4), u5, u6, u7, u8] S = some (.nx [u0, some (.loc fl), some (.loc L2), some (.int (k : Int)), some (.loc L4), u5, u6, u7, u8] S') ∧ LInv S0 fl L2 L4 rows ths S' ∧ ths.length = things.length + 2 := by
  have hk5 : k % 5 < rows.length := by rw [hr]; omega
  have hrow : rows[k % 5]? = some rows[k % 5] := List.getElem?_eq_getElem hk5
  have rk := ok _ (List.getElem_mem hk5)
  have e5 : (k : Int).fmod 5 = ((k % 5 : Nat) : Int) := by rw [Int.fmod_eq_emod_of_nonneg _ (by decide)]; rfl
  have ix : ev2 oIx (evVar 2) (ev2 oMod (evVar 3) (evC (.int 5))) [u0, some (.loc fl), some (.loc L2), some (.int (k : Int)), some (.loc L4), u5, u6, u7, u8] S = some (.tup (zs rows[k % 5]), S) := by
    refine ev2_of rfl (ev2_of rfl rfl (oMod_ints (by decide))) ?_
    rw [e5, oIx_loc (.inl I.some_), atI_nat (show (ts rows)[k % 5]? = some (.tup (zs rows[k % 5])) by rw [List.getElem?_map, hrow]; rfl)]; rfl
  obtain ⟨da, db, dc⟩ := sml_ints (S := S) (q := fun i => i = fl ∨ i = L4) (B := 10 ^ 30) (ns := rows[k % 5]) rk.2.2
  have rl := rk.2.1
  obtain ⟨d1, S1, e1, o1⟩ := spec_bent (q := fun i => i = fl ∨ i = L4) (.inl rfl) 1 I.st.fd da (by omega) (by omega) (by omega)
  obtain ⟨p1, g1, g2, g3⟩ := o1.2 (fun i => i = fl ∨ i = L4) _ (10 ^ 30) (10 ^ 39) (.inl rfl) (fun i z => by
    rcases z with rfl | rfl
    · exact I.st.fd.lt
    · exact (List.getElem?_eq_some_iff.mp I.all_).1) da (by decide) (by decide)
  obtain ⟨a1, I1⟩ := add_step h4 hL h2 h24 I o1.1 ⟨p1, g1, by omega, by omega⟩ (by omega)
  have q1 : stepA [u0, some (.loc fl), some (.loc L2), some (.int (k : Int)), some (.loc L4), u5, u6, u7, u8] S = some (.nx [u0, some (.loc fl), some (.loc L2), some (.int (k : Int)), some (.loc L4), u5, u6, u7, u8] (S1.set L4 (.lst (things ++ [d1])))) := sExpr_of (evM_of rfl (ea1 (evF_of (ea2 rfl ix) e1)) a1 (notD_lst I.all_))
  obtain ⟨d2, S2, e2, st2, sm⟩ := spec_odd I1.st.fd
  have gd2 : Gd S2 (fun i => i = fl ∨ i = L4) d2 := by
    obtain ⟨p, h1, h2, h3⟩ := sm (fun i => i = fl ∨ i = L4) (fun i z => by
      rcases z with rfl | rfl
      · exact I1.st.fd.lt
      · exact (List.getElem?_eq_some_iff.mp I1.all_).1)
    exact ⟨p, h1, by omega, by omega⟩
  obtain ⟨a2, I2⟩ := add_step h4 hL h2 h24 I1 st2 gd2 (by rw [List.length_append, List.length_singleton]; omega)
  refine ⟨_, _, (sSeq_nx q1).trans (sExpr_of (evM_of rfl (ea1 (evF_of (ea1 rfl) e2)) a2 (notD_lst I1.all_))), I2, ?_⟩
  rw [List.length_append, List.length_append]; rfl
theorem things_loop {S0 : Store} {fl L2 L4 : Nat} {rows : List (List Int)} {u0 u5 u6 u7 u8 : Option D} (h4 : fl < L4) (hL : S0.length ≤ L4) (h2 : L2 ≠ fl) (h24 : L2 ≠ L4) (hr : rows.length = 5) (ok : ∀ n ∈ rows, RowOk n) {G : Store → Prop} (hG : ∀ S, G S) : ∀ (ks : List Nat) (S : Store) (things : List D) (u3 : Option D), LInv S0 fl L2 L4 rows things S → things.length + 2 * ks.length ≤ 900 →
    ∃ S' ths u3', forL G (.nm 3) (sSeq stepA stepB) (ks.map fun (i : Nat) => D.int ((i : Nat) : Int)) [u0, some (.loc fl), some (.loc L2), u3, some (.loc L4), u5, u6, u7, u8] S = some (.nx [u0, some (.loc fl), some (.loc L2), u3', some (.loc L4), u5, u6, u7, u8] S') ∧ LInv S0 fl L2 L4 rows ths S' ∧ ths.length ≤ 900
  | [], S, things, u3, I, hl => ⟨S, things, u3, forL_nil (hG _), I, by omega⟩
  | k :: ks, S, things, u3, I, hl => by
    rw [List.length_cons] at hl
    obtain ⟨S1, th1, e1, I1, l1⟩ := two_steps (k := k) (u0 := u0) (u5 := u5) (u6 := u6) (u7 := u7) (u8 := u8) h4 hL h2 h24 I hr ok (by omega)
    obtain ⟨S', ths, u3', e2, I2, l2⟩ := things_loop (u0 := u0) (u5 := u5) (u6 := u6) (u7 := u7) (u8 := u8) h4 hL h2 h24 hr ok hG ks S1 th1 (some (.int (k : Int))) I1 (by omega)
    exact ⟨S', ths, u3', (forL_cons (hG _) (show setD (.nm 3) (.int (k : Int)) [u0, some (.loc fl), some (.loc L2), u3, some (.loc L4), u5, u6, u7, u8] = some [u0, some (.loc fl), some (.loc L2), some (.int (k : Int)), some (.loc L4), u5, u6, u7, u8] from rfl) e1).trans e2, I2, l2⟩
/-! ### each is looked at -/
noncomputable abbrev lookStep : Sv := sSeq (sSet 6 (evF fRepr (eaCons (evVar 5) (eaNil)))) (sIf (evOr (evB (ev2 oNe (evF fRepr (eaCons (evF f_is_row (eaCons (evVar 5) (eaNil))) (eaNil))) (evF fRepr (eaCons (evF f_law_is_row (eaCons (evVar 5) (eaNil))) (eaNil))))) (evB (ev2 oNe (evF fRepr (eaCons (evVar 5) (eaNil))) (evVar 6)))) (sRet (evC (.bl false))) (sSkip))
theorem repr_bl (b : Bool) (S : Store) : fRepr [.bl b] S = some (.str (PyData.bool b).shown, S) := if_pos ((Rp.bool b).ok (by decide) (by decide))
theorem look_one {S : Store} {q : Nat → Prop} {d : D} {u0 u1 u2 u3 u4 u6 u7 u8 : Option D} (h : Gd S q d) : ∃ u6', lookStep [u0, u1, u2, u3, u4, some d, u6, u7, u8] S = some (.nx [u0, u1, u2, u3, u4, some d, u6', u7, u8] S) := by
  obtain ⟨p, hd, h1, h2⟩ := h
  have rp : fRepr [d] S = some (.str p.shown, S) := hd.repr (Nat.lt_of_le_of_lt (show 10 ^ 39 ≤ 2 ^ 200 by decide) (Nat.pow_lt_pow_right (by decide) (by decide))) (by omega) (by omega)
  have t1 : evB (ev2 oNe (evF fRepr (eaCons (evF f_is_row (eaCons (evVar 5) (eaNil))) (eaNil))) (evF fRepr (eaCons (evF f_law_is_row (eaCons (evVar 5) (eaNil))) (eaNil)))) [u0, u1, u2, u3, u4, some d, some (.str p.shown), u7, u8] S = some (false, S) := evB_of (ev2_of (evF_of (ea1 (evF_of (ea1 rfl) (f_is_row_of hd.known))) (repr_bl _ _)) (evF_of (ea1 (evF_of (ea1 rfl) (spec_law_is_row hd (by omega) (by omega)))) (repr_bl _ _)) (ne_str _ _))
  have t2 : evB (ev2 oNe (evF fRepr (eaCons (evVar 5) (eaNil))) (evVar 6)) [u0, u1, u2, u3, u4, some d, some (.str p.shown), u7, u8] S = some (false, S) := evB_of (ev2_of (evF_of (ea1 rfl) rp) rfl (ne_str _ _))
  exact ⟨some (.str p.shown), (sSeq_nx (sSet_of (evF_of (ea1 rfl) rp))).trans ((sIf_f ((evOr_f t1).trans t2)).trans rfl)⟩
theorem look_all {S : Store} {q : Nat → Prop} {u0 u1 u2 u3 u4 u7 u8 : Option D} {G : Store → Prop} (hG : G S) : ∀ (ds : List D) (u5 u6 : Option D), (∀ d ∈ ds, Gd S q d) → ∃ u5' u6', forL G (.nm 5) lookStep ds [u0, u1, u2, u3, u4, u5, u6, u7, u8] S = some (.nx [u0, u1, u2, u3, u4, u5', u6', u7, u8] S)
  | [], u5, u6, _ => ⟨u5, u6, forL_nil hG⟩
  | d :: ds, u5, u6, h => by
    obtain ⟨u6', e⟩ := look_one (u0 := u0) (u1 := u1) (u2 := u2) (u3 := u3) (u4 := u4) (u6 := u6) (u7 := u7) (u8 := u8) (h d List.mem_cons_self)
    obtain ⟨v5, v6, ih⟩ := look_all (S := S) (q := q) (u0 := u0) (u1 := u1) (u2 := u2) (u3 := u3) (u4 := u4) (u7 := u7) (u8 := u8) hG ds (some d) u6' (fun x hx => h x (List.mem_cons_of_mem _ hx))
    exact ⟨v5, v6, (forL_cons hG (show setD (.nm 5) d [u0, u1, u2, u3, u4, u5, u6, u7, u8] = some [u0, u1, u2, u3, u4, some d, u6, u7, u8] from rfl) e).trans ih⟩
/-! ### rows with rows -/
noncomputable abbrev pairStep : Sv := sSeq (sPar 7 8 (eaCons (ev2 oIx (evVar 2) (evVar 3)) (eaCons (ev2 oIx (evVar 2) (evF f_law_draw (eaCons (evVar 1) (eaCons (evC (.int 5)) (eaNil))))) (eaNil)))) (sSeq (sSet 6 (evF fRepr (eaCons (evTup (eaCons (evVar 7) (eaCons (evVar 8) (eaNil)))) (eaNil)))) (sSeq (sIf (evB (ev2 oNe (evF fRepr (eaCons (evF f_row_sum (eaCons (evVar 7) (eaCons (evVar 8) (eaNil)))) (eaNil))) (evF fRepr (eaCons (evF f_law_plus (eaCons (evVar 7) (eaCons (evVar 8) (eaNil)))) (eaNil))))) (sRet (evC (.bl false))) (sSkip)) (sSeq (sIf (evB (ev2 oNe (evF fRepr (eaCons (evF f_row_product (eaCons (evVar 7) (eaCons (evVar 8) (eaNil)))) (eaNil))) (evF fRepr (eaCons (evF f_law_product (eaCons (evVar 7) (eaCons (evVar 8) (eaNil)))) (eaNil))))) (sRet (evC (.bl false))) (sSkip)) (sIf (evOr (evB (ev2 oNe (evF fRepr (eaCons (evF f_row_on (eaCons (evVar 7) (eaNil))) (eaNil))) (evF fRepr (eaCons (ev2 oAdd2 (evTup (eaCons (evC (.int 0)) (eaNil))) (evVar 7)) (eaNil))))) (evB (ev2 oNe (evF fRepr (eaCons (evTup (eaCons (evVar 7) (eaCons (evVar 8) (eaNil)))) (eaNil))) (evVar 6)))) (sRet (evC (.bl false))) (sSkip)))))
theorem big_le : 2 ^ 256 ≤ 2 ^ 1920 := Nat.pow_le_pow_right (by decide) (by decide)
theorem row_bd {ns : List Int} (h : RowOk ns) : Bd (10 ^ 30 + 1) ns := fun n hn => Nat.lt_succ_of_le (h.2.2 n hn)
theorem sum_bd {a b : List Int} (ha : RowOk a) (hb : RowOk b) : Bd (2 ^ 1920) (addL a b) := by
  refine (addL_bd (by decide) (by decide) (row_bd ha) (row_bd hb)).up (Nat.le_trans (Nat.le_trans (Nat.add_le_add (Nat.add_le_add_left (Nat.mul_le_mul_right _ hb.2.1) _) (Nat.mul_le_mul_right _ ha.2.1)) ?_) big_le)
  decide
theorem mul_bd {a b : List Int} (ha : RowOk a) (hb : RowOk b) : Bd (2 ^ 1920) (mulL a b) := by
  refine (mulL_bd (row_bd ha) (row_bd hb)).up (Nat.le_trans (Nat.le_trans (Nat.add_le_add_left (Nat.mul_le_mul ha.2.1 (Nat.mul_le_mul_right _ hb.2.1)) _) ?_) big_le)
  decide
theorem pair_one {S : Store} {fl L2 k : Nat} {rows : List (List Int)} {u0 u4 u5 u6 u7 u8 : Option D} (h2 : L2 ≠ fl) (hf : Fd S fl) (hs : S[L2]? = some (Cell.lst (ts rows))) (hr : rows.length = 5) (ok : ∀ n ∈ rows, RowOk n) (hk : k < 5) :
    ∃ S' u6' u7' u8', pairStep [u0, some (.loc fl), some (.loc L2), some (.int (k : Int)), u4, u5, u6, u7, u8] S = some (.nx [u0, some (.loc fl), some (.loc L2), some (.int (k : Int)), u4, u5, u6', u7', u8'] S') ∧ Stp fl S S' := by
  obtain ⟨j, S1, e1, hj, _, st⟩ := spec_draw_nat (m := 5) hf (by decide) (by decide)
  have hk' : k < rows.length := by omega
  have hj' : j < rows.length := by omega
  have hs1 : S1[L2]? = some (Cell.lst (ts rows)) := st.get h2 hs
  have ix : ∀ {i : Nat} (hi : i < rows.length) {T : Store}, T[L2]? = some (Cell.lst (ts rows)) → oIx (.loc L2) (.int (i : Int)) T = some (.tup (zs (rows[i]'hi)), T) := fun {i} hi {T} hT => by
    rw [oIx_loc (.inl hT), atI_nat (show (ts rows)[i]? = some (.tup (zs (rows[i]'hi))) by rw [List.getElem?_map, List.getElem?_eq_getElem hi]; rfl)]; rfl
  have oa := ok _ (List.getElem_mem hk')
  have ob := ok _ (List.getElem_mem hj')
  generalize hA : rows[k] = a at *
  generalize hB : rows[j] = b at *
  have q1 : sPar 7 8 (eaCons (ev2 oIx (evVar 2) (evVar 3)) (eaCons (ev2 oIx (evVar 2) (evF f_law_draw (eaCons (evVar 1) (eaCons (evC (.int 5)) (eaNil))))) (eaNil))) [u0, some (.loc fl), some (.loc L2), some (.int (k : Int)), u4, u5, u6, u7, u8] S = some (.nx [u0, some (.loc fl), some (.loc L2), some (.int (k : Int)), u4, u5, u6, some (.tup (zs a)), some (.tup (zs b))] S1) := by
    refine sPar_of (ea2 (S1 := S) (ev2_of rfl rfl ?_) (ev2_of rfl (evF_of (ea2 rfl rfl) e1) ?_))
    · rw [ix hk' hs, hA]
    · rw [ix hj' hs1, hB]
  have ba : Bd (2 ^ 1920) a := (row_bd oa).up (Nat.le_trans (show 10 ^ 30 + 1 ≤ 2 ^ 256 by decide) big_le)
  have bb : Bd (2 ^ 1920) b := (row_bd ob).up (Nat.le_trans (show 10 ^ 30 + 1 ≤ 2 ^ 256 by decide) big_le)
  have la := oa.2.1
  have lb := ob.2.1
  have rt := repr_two (S := S1) ba bb (by omega) (by omega)
  generalize hT : (PyData.tuple (pys [a, b])).shown = tx at *
  have vt : ∀ u6, evF fRepr (eaCons (evTup (eaCons (evVar 7) (eaCons (evVar 8) (eaNil)))) (eaNil)) [u0, some (.loc fl), some (.loc L2), some (.int (k : Int)), u4, u5, u6, some (.tup (zs a)), some (.tup (zs b))] S1 = some (.str tx, S1) := fun u6 => evF_of (ea1 (evTup_of (ea2 rfl rfl) (by show 2 ≤ 1000; decide))) rt
  have rs : fRepr [.tup (zs (addL a b))] S1 = some (.str (PyData.tuple ((addL a b).map .int)).shown, S1) := repr_ints (sum_bd oa ob) (by have := addL_len a b; omega)
  have rm : fRepr [.tup (zs (mulL a b))] S1 = some (.str (PyData.tuple ((mulL a b).map .int)).shown, S1) := repr_ints (mul_bd oa ob) (by have := mulL_len a b; omega)
  have hup : Bd (2 ^ 20000) a ∧ Bd (2 ^ 20000) b := ⟨ba.up (Nat.pow_le_pow_right (by decide) (by decide)), bb.up (Nat.pow_le_pow_right (by decide) (by decide))⟩
  have mk : MOk a b := ⟨hup.1, hup.2, by omega, by omega⟩
  have hn : ¬ (a = [] ∨ b = []) := fun z => z.elim oa.1 ob.1
  have b0 : Bd (2 ^ 1920) (0 :: a) := fun n hn => by
    rcases List.mem_cons.mp hn with rfl | hn
    · exact Nat.pow_pos (by decide)
    · exact ba n hn
  have r0 : fRepr [.tup (.int 0 :: zs a)] S1 = some (.str (PyData.tuple ((0 :: a).map .int)).shown, S1) := repr_ints (ns := 0 :: a) b0 (by rw [List.length_cons]; omega)
  have on := spec_row_on (zs a) S1 (by rw [List.length_map]; omega)
  refine ⟨S1, some (.str tx), some (.tup (zs a)), some (.tup (zs b)), ?_, st⟩
  refine (sSeq_nx q1).trans ((sSeq_nx (sSet_of (vt u6))).trans ?_)
  refine (sSeq_nx ((sIf_f (evB_of (ev2_of (evF_of (ea1 (evF_of (ea2 rfl rfl) (spec_row_sum a b S1))) rs) (evF_of (ea1 (evF_of (ea2 rfl rfl) (spec_law_plus oa.1 (by omega) (by omega)))) rs) (ne_str _ _)))).trans rfl)).trans ?_
  refine (sSeq_nx ((sIf_f (evB_of (ev2_of (evF_of (ea1 (evF_of (ea2 rfl rfl) (f_poly_product_of mk))) rm) (evF_of (ea1 (evF_of (ea2 rfl rfl) (spec_law_product mk hn))) rm) (ne_str _ _)))).trans rfl)).trans ?_
  have t1 : evB (ev2 oNe (evF fRepr (eaCons (evF f_row_on (eaCons (evVar 7) (eaNil))) (eaNil))) (evF fRepr (eaCons (ev2 oAdd2 (evTup (eaCons (evC (.int 0)) (eaNil))) (evVar 7)) (eaNil)))) [u0, some (.loc fl), some (.loc L2), some (.int (k : Int)), u4, u5, some (.str tx), some (.tup (zs a)), some (.tup (zs b))] S1 = some (false, S1) := by
    refine evB_of (ev2_of (evF_of (ea1 (evF_of (ea1 rfl) on)) r0) (evF_of (ea1 (ev2_of (evTup_of (ea1 rfl) (by show 1 ≤ 1000; decide)) rfl (oAdd2_tup ?_))) r0) (ne_str _ _))
    rw [List.length_map]; show 1 + _ ≤ 1000; omega
  exact (sIf_f ((evOr_f t1).trans (evB_of (ev2_of (vt _) rfl (ne_str _ _))))).trans rfl
theorem pair_all {fl L2 : Nat} {rows : List (List Int)} {u0 u4 u5 : Option D} (h2 : L2 ≠ fl) (hr : rows.length = 5) (ok : ∀ n ∈ rows, RowOk n) {G : Store → Prop} (hG : ∀ S, G S) : ∀ (ks : List Nat) (S : Store) (u3 u6 u7 u8 : Option D), (∀ k ∈ ks, k < 5) → Fd S fl → S[L2]? = some (Cell.lst (ts rows)) →
    ∃ S' σ, forL G (.nm 3) pairStep (ks.map fun (i : Nat) => D.int ((i : Nat) : Int)) [u0, some (.loc fl), some (.loc L2), u3, u4, u5, u6, u7, u8] S = some (.nx σ S') ∧ Stp fl S S'
  | [], S, u3, u6, u7, u8, _, hf, hs => ⟨S, _, forL_nil (hG _), Stp.refl hf⟩
  | k :: ks, S, u3, u6, u7, u8, hk, hf, hs => by
    obtain ⟨S1, v6, v7, v8, e1, st1⟩ := pair_one (u0 := u0) (u4 := u4) (u5 := u5) (u6 := u6) (u7 := u7) (u8 := u8) h2 hf hs hr ok (hk k List.mem_cons_self)
    obtain ⟨S', σ, e2, st2⟩ := pair_all (u0 := u0) (u4 := u4) (u5 := u5) h2 hr ok hG ks S1 (some (.int (k : Int))) v6 v7 v8 (fun x hx => hk x (List.mem_cons_of_mem _ hx)) st1.fd (st1.get h2 hs)
    exact ⟨S', σ, (forL_cons (hG _) (show setD (.nm 3) (.int (k : Int)) [u0, some (.loc fl), some (.loc L2), u3, u4, u5, u6, u7, u8] = some [u0, some (.loc fl), some (.loc L2), some (.int (k : Int)), u4, u5, u6, u7, u8] from rfl) e1).trans e2, st1.trans st2⟩
theorem law_some {ds S r} (e : fLaw ds S = some r) : ∃ ns : List Int, ds = [.loc 0] ∧ S = [.ro (zs ns)] ∧ ns.length ≤ 63 ∧ r = (.bl true, S) := by
  unfold fLaw at e
  split at e
  · rename_i h
    obtain ⟨ns, h1, h2, h3⟩ := h
    exact ⟨ns, h1, h2, h3, (Option.some.inj e).symm⟩
  · cases e
theorem ar_law : ∀ ds S r, f_law ds S = some r → ds.length = 1 := fun ds S r e => by
  obtain ⟨ns, rfl, _⟩ := law_some e
  rfl
theorem rng_nat {σ : Sg} {S : Store} {n : Nat} {m : Ev} (hm : m σ S = some (.int ((n : Nat) : Int), S)) (hn : n ≤ 1000) : evRng (eaCons m (eaNil)) σ S = some ((List.range n).map (fun (i : Nat) => D.int ((i : Nat) : Int)), S, fun _ => True) := by
  rw [evRng_one (ea1 hm) (small_nat (by omega)), Int.toNat_natCast]
  unfold rangeD
  congr 2
  refine List.map_congr_left fun i _ => ?_
  rw [Int.zero_add]
theorem sem_law : ∀ ds S d S', f_law ds S = some (d, S') → Sem m_law NL ds S d S' := fun ds S d S' e => by
  obtain ⟨ns, rfl, rfl, hl, e⟩ := law_some e
  cases e
  obtain ⟨fl, S1, e1, l1, f1, m1⟩ := spec_feed (S := [.ro (zs ns)]) (n := 0) (ns := ns) rfl
  have q1 : sSet 1 (evF f_law_feed (eaCons (evVar 0) (eaNil))) (startD NL [.loc 0]) [.ro (zs ns)] = some (.nx [some (.loc 0), some (.loc fl), none, none, none, none, none, none, none] S1) := sSet_of (evF_of (ea1 rfl) e1)
  have lf := f1.lt
  -- five rows
  have it5 : ∀ {σ : Sg} {S : Store}, evRng (eaCons (evC (.int 5)) (eaNil)) σ S = some ((List.range 5).map (fun (i : Nat) => D.int ((i : Nat) : Int)), S, fun _ => True) := fun {σ S} => rng_nat (n := 5) rfl (by decide)
  obtain ⟨S2, rows, e2, st2, g2, l2, ok⟩ := rows_loop (S0 := S1) (fl := fl) (L := S1.length) lf (Nat.le_refl _) (G := fun _ => True) (fun _ => trivial) (σ := [some (.loc 0), some (.loc fl), none, none, none, none, none, none, none]) (fun d => ⟨_, rfl, rfl⟩) ((List.range 5).map (fun (i : Nat) => D.int ((i : Nat) : Int))) (S1 ++ [.lst (ts [])]) [] (Stp.app f1) get_last (by decide) (fun _ h => nomatch h)
  have hr : rows.length = 5 := l2
  have q2 : sSet 2 (evLC (evRng (eaCons (evC (.int 5)) (eaNil))) (.nm 3) (evYes) (evF f_law_drawn_row (eaCons (evVar 1) (eaNil))) [3]) [some (.loc 0), some (.loc fl), none, none, none, none, none, none, none] S1 = some (.nx [some (.loc 0), some (.loc fl), some (.loc S1.length), none, none, none, none, none, none] S2) := sSet_of (evLC_of it5 e2)
  -- the things that are told
  have len2 : S1.length < S2.length := (List.getElem?_eq_some_iff.mp g2).1
  have lf2 := st2.fd.lt
  obtain ⟨S3, hS3⟩ : ∃ S3, S3 = S2 ++ [.lst [.int 1], .lst (fixed S2.length), .lst (ts rows ++ fixed S2.length)] := ⟨_, rfl⟩
  have q3 : sSet 4 (ev2 oAdd (evVar 2) (evLst (eaCons (evTup (eaNil)) (eaCons (evTup (eaCons (evC (.int 0)) (eaNil))) (eaCons (evTup (eaCons (evC (.int 1)) (eaNil))) (eaCons (evTup (eaCons (evC (.int 0)) (eaCons (evC (.int 1)) (eaNil)))) (eaCons (evTup (eaCons (evC (.int 1)) (eaCons (evC (.int 0)) (eaNil)))) (eaCons (evTup (eaCons (evC (.bl true)) (eaNil))) (eaCons (evLst (eaCons (evC (.int 1)) (eaNil))) (eaCons (evTup (eaCons (evC (.int 1)) (eaCons (ev1 oNeg (evC (.int 1))) (eaCons (evC (.int 1)) (eaNil))))) (eaCons (evTup (eaCons (ev1 oNeg (evC (.int 1))) (eaNil))) (eaCons (evTup (eaCons (evC (.int 1)) (eaCons (evC .non) (eaNil)))) (eaCons (evTup (eaCons (evC (.bl true)) (eaCons (evC (.int 1)) (eaNil)))) (eaCons (evTup (eaCons (evC (.str "1")) (eaNil))) (eaNil))))))))))))))) [some (.loc 0), some (.loc fl), some (.loc S1.length), none, none, none, none, none, none] S2 = some (.nx [some (.loc 0), some (.loc fl), some (.loc S1.length), none, some (.loc (S2.length + 2)), none, none, none, none] S3) := by
    refine (sSet_of (ev2_of rfl (show _ = some (.loc (S2 ++ [Cell.lst [.int 1]]).length, S2 ++ [.lst [.int 1]] ++ [.lst (fixed S2.length)]) from rfl) (r := (.loc (S2.length + 2), S3)) ?_)).trans rfl
    have ga : (S2 ++ [Cell.lst [.int 1]] ++ [Cell.lst (fixed S2.length)])[S1.length]? = some (Cell.lst (ts rows)) := getW (getW g2)
    have gb : (S2 ++ [Cell.lst [.int 1]] ++ [Cell.lst (fixed S2.length)])[(S2 ++ [Cell.lst [.int 1]]).length]? = some (Cell.lst (fixed S2.length)) := get_last
    show (match (S2 ++ [Cell.lst [.int 1]] ++ [Cell.lst (fixed S2.length)])[S1.length]?, (S2 ++ [Cell.lst [.int 1]] ++ [Cell.lst (fixed S2.length)])[(S2 ++ [Cell.lst [.int 1]]).length]? with
      | some (Cell.lst ds), some (Cell.lst es) => if ds.length + es.length ≤ 100000 then some (D.loc (S2 ++ [Cell.lst [.int 1]] ++ [Cell.lst (fixed S2.length)]).length, (S2 ++ [Cell.lst [.int 1]] ++ [Cell.lst (fixed S2.length)]) ++ [Cell.lst (ds ++ es)]) else none
      | _, _ => none) = _
    rw [ga, gb]
    dsimp only
    rw [if_pos (by rw [List.length_map, hr]; show 5 + 12 ≤ 100000; decide), hS3]
    simp
  have st3 : Stp fl S2 S3 := by rw [hS3]; exact Stp.app st2.fd
  have gd1 : S3[S2.length]? = some (Cell.lst [.int 1]) := by rw [hS3]; exact getK 0
  have I3 : LInv S2 fl S1.length (S2.length + 2) rows (ts rows ++ fixed S2.length) S3 := by
    refine ⟨st3, st3.get (by omega) g2, by rw [hS3]; exact getK 2, fun d hd => ?_⟩
    rcases List.mem_append.mp hd with hd | hd
    · obtain ⟨x, hx, rfl⟩ := List.mem_map.mp hd
      exact gd_row (ok x hx)
    · exact fixed_gd gd1 (fun z => by rcases z with z | z <;> omega) d hd
  -- bent ones and odd ones
  obtain ⟨S4, ths, v3, e4, I4, l4⟩ := things_loop (S0 := S2) (fl := fl) (L2 := S1.length) (L4 := S2.length + 2) (rows := rows) (u0 := some (.loc 0)) (u5 := none) (u6 := none) (u7 := none) (u8 := none) (by omega) (by omega) (by omega) (by omega) hr ok (G := fun _ => True) (fun _ => trivial) (List.range 12) S3 (ts rows ++ fixed S2.length) none I3 (by rw [List.length_append, List.length_map, hr]; show 5 + 12 + 2 * 12 ≤ 900; decide)
  have it12 : evRng (eaCons (evC (.int 12)) (eaNil)) [some (.loc 0), some (.loc fl), some (.loc S1.length), none, some (.loc (S2.length + 2)), none, none, none, none] S3 = some ((List.range 12).map (fun (i : Nat) => D.int ((i : Nat) : Int)), S3, fun _ => True) := rng_nat (n := 12) rfl (by decide)
  -- looked at
  have it6 : evSeq (ev2 oAdd (evVar 4) (evVar 2)) [some (.loc 0), some (.loc fl), some (.loc S1.length), v3, some (.loc (S2.length + 2)), none, none, none, none] S4 = some (ths ++ ts rows, S4 ++ [.lst (ths ++ ts rows)], grd (.loc S4.length) (ths ++ ts rows)) := by
    have ad : ev2 oAdd (evVar 4) (evVar 2) [some (.loc 0), some (.loc fl), some (.loc S1.length), v3, some (.loc (S2.length + 2)), none, none, none, none] S4 = some (.loc S4.length, S4 ++ [.lst (ths ++ ts rows)]) := by
      refine ev2_of rfl rfl ?_
      show (match S4[S2.length + 2]?, S4[S1.length]? with
        | some (Cell.lst ds), some (Cell.lst es) => if ds.length + es.length ≤ 100000 then some (D.loc S4.length, S4 ++ [Cell.lst (ds ++ es)]) else none
        | _, _ => none) = _
      rw [I4.all_, I4.some_]
      dsimp only
      rw [if_pos (by rw [List.length_map, hr]; omega)]
    unfold evSeq
    rw [ad]
    show (itemsD (.loc S4.length) (S4 ++ [Cell.lst (ths ++ ts rows)])).map _ = _
    rw [itemsD_of (.inl get_last)]; rfl
  obtain ⟨v5, v6, e6⟩ := look_all (S := S4 ++ [.lst (ths ++ ts rows)]) (q := fun i => i = fl ∨ i = S2.length + 2) (u0 := some (.loc 0)) (u1 := some (.loc fl)) (u2 := some (.loc S1.length)) (u3 := v3) (u4 := some (.loc (S2.length + 2))) (u7 := none) (u8 := none) (G := grd (.loc S4.length) (ths ++ ts rows)) (.inl get_last) (ths ++ ts rows) none none (fun d hd => by
    rcases List.mem_append.mp hd with hd | hd
    · exact (I4.gd d hd).mono app_ok
    · obtain ⟨x, hx, rfl⟩ := List.mem_map.mp hd
      exact gd_row (ok x hx))
  -- rows with rows
  obtain ⟨S5, σ5, e7, st7⟩ := pair_all (fl := fl) (L2 := S1.length) (rows := rows) (u0 := some (.loc 0)) (u4 := some (.loc (S2.length + 2))) (u5 := v5) (by omega) hr ok (G := fun _ => True) (fun _ => trivial) (List.range 5) (S4 ++ [.lst (ths ++ ts rows)]) v3 v6 none none (fun k hk => List.mem_range.mp hk) I4.st.fd.app (getW I4.some_)
  have run : m_law (startD NL [.loc 0]) [.ro (zs ns)] = some (.rt (.bl true) S5) :=
    (sSeq_nx q1).trans ((sSeq_nx q2).trans ((sSeq_nx q3).trans ((sSeq_nx ((sFor_of it12).trans e4)).trans ((sSeq_nx ((sFor_of it6).trans e6)).trans ((sSeq_nx ((sFor_of it5).trans e7)).trans rfl)))))
  have sm : Sm fl [.ro (zs ns)] S5 := (((m1.trans st2.toSm).trans I4.st.toSm).trans (Sm.app)).trans st7.toSm
  have kp : Keeps [.ro (zs ns)] S5 := Stp.keeps sm l1
  have := Sem.drop run rfl kp
  rw [keep_take sm.len (fun i hi => sm.same i (by have : ([Cell.ro (zs ns)] : Store).length = 1 := rfl; omega) hi)] at this
  exact this
end Pw
set_option maxHeartbeats 1000000
namespace Px
open PySem L2 Q2 Pf
open Pw (fc0 fc1 fc2 fp1 fp2 evAnd_t evAnd_f fDet fDet_of)
/-! ### the tape -/
structure Ft (S : Store) (fl B : Nat) : Prop where
  ex : ∃ m ns b c, m < fl ∧ S[fl]? = some (FC m b c) ∧ S[m]? = some (Cell.lst (zs ns)) ∧ b.natAbs ≤ B
theorem Ft.lt {S : Store} {fl B : Nat} (h : Ft S fl B) : fl < S.length := by
  obtain ⟨m, ns, b, c, _, h, _⟩ := h.ex
  exact (List.getElem?_eq_some_iff.mp h).1
theorem Ft.app {S U : Store} {fl B : Nat} (h : Ft S fl B) : Ft (S ++ U) fl B := by
  obtain ⟨m, ns, b, c, h1, h2, h3, h4⟩ := h.ex
  exact ⟨m, ns, b, c, h1, getW h2, getW h3, h4⟩
theorem Ft.set {S : Store} {fl i B : Nat} {c : Cell} (h : Ft S fl B) (hi : fl < i) : Ft (S.set i c) fl B := by
  obtain ⟨m, ns, b, c, h1, h2, h3, h4⟩ := h.ex
  exact ⟨m, ns, b, c, h1, by rw [List.getElem?_set_ne (by omega)]; exact h2, by rw [List.getElem?_set_ne (by omega)]; exact h3, h4⟩
theorem Ft.up {S : Store} {fl B B' : Nat} (h : Ft S fl B) (hB : B ≤ B') : Ft S fl B' := by
  obtain ⟨m, ns, b, c, h1, h2, h3, h4⟩ := h.ex
  exact ⟨m, ns, b, c, h1, h2, h3, by omega⟩
/-! ### a number is drawn -/
end Px
set_option maxHeartbeats 1000000
namespace Px
open PySem L2 Q2 Pf
open Pw (fDet fDet_of)
/-! ### ways to choose -/
def chL (n : Int) : Nat → Int
  | 0 => 1
  | i + 1 => (chL n i * (n - (i : Nat))).fdiv ((i : Nat) + 1)
def chooseF (n k : Int) : Int := if 0 ≤ k ∧ k ≤ n then chL n k.toNat else 0
/-! ### the rows of all ties, of lines, of rings -/
def dfc : Nat → Int
  | 0 => 1
  | k + 1 => dfc k * (2 * (k : Nat) + 1)
def fullRow (n : Nat) : List Int := (List.range (n / 2 + 1)).map fun k => chooseF n (2 * (k : Nat)) * dfc k
end Px
set_option maxHeartbeats 1000000
namespace Px
open PySem L2 Q2 Pf
open Pw (fDet fDet_of)
/-! ### the row of the rest -/
def sg (j : Nat) (r : Int) : Int := if j % 2 = 1 then -r else r
def restAll (n : Nat) : Nat → List Int → List Int → List Int
  | _, tot, [] => tot
  | j, tot, r :: rs => restAll n (j + 1) (addAt j tot ((fullRow (n - 2 * j)).map (sg j r * ·))) rs
def restL (n : Nat) (row : List Int) : List Int := trim (restAll n 0 (List.replicate (n / 2 + 1) 0) row)
theorem restAll_len (n : Nat) : ∀ (j : Nat) (tot rs : List Int), (restAll n j tot rs).length = tot.length
  | _, _, [] => rfl
  | j, tot, r :: rs => by show (restAll n (j + 1) _ rs).length = _; rw [restAll_len, addAt_len]
theorem full_len (n : Nat) : (fullRow n).length = n / 2 + 1 := by unfold fullRow; rw [List.length_map, List.length_range]
theorem full_bd : ∀ n ≤ 60, ∀ x ∈ fullRow n, x.natAbs < 2 ^ 200 := by decide +kernel
def ROk (n : Nat) (row : List Int) : Prop := n ≤ 60 ∧ row.length ≤ n / 2 + 1 ∧ Bd (2 ^ 20000) row
end Px
set_option maxHeartbeats 1000000
namespace Px
open PySem L2 Q2 Pf
/-! ### the numbers of a trimmed list -/
theorem co_out {a : List Int} {k : Nat} (h : a.length ≤ k) : co a k = 0 := by
  unfold co
  rw [List.getD_eq_getElem?_getD, List.getElem?_eq_none h]; rfl
theorem tl_zero (a : List Int) : ∀ (e k : Nat), tl a e ≤ k → k < e → co a k = 0
  | 0, k, _, h => by omega
  | e + 1, k, h1, h2 => by
    have h : (if a[e]? = some 0 then tl a e else e + 1) ≤ k := h1
    by_cases z : a[e]? = some 0
    · rw [if_pos z] at h
      by_cases q : k = e
      · subst q
        unfold co
        rw [List.getD_eq_getElem?_getD, z]; rfl
      · exact tl_zero a e k h (by omega)
    · rw [if_neg z] at h; omega
theorem co_trim (a : List Int) (k : Nat) : co (trim a) k = co a k := by
  by_cases h : k < tl a a.length
  · unfold co trim
    rw [List.getD_eq_getElem?_getD, List.getD_eq_getElem?_getD, List.getElem?_take, if_pos h]
  · have h1 : co (trim a) k = 0 := co_out (by unfold trim; rw [List.length_take]; omega)
    rw [h1]
    by_cases h2 : k < a.length
    · rw [tl_zero a a.length k (by omega) h2]
    · rw [co_out (by omega)]
theorem ext_nz {a b : List Int} (ha : Nz a) (hb : Nz b) (h : ∀ k, co a k = co b k) : a = b := by
  have hl : ∀ {a b : List Int}, Nz a → (∀ k, co a k = co b k) → a.length ≤ b.length := fun {a b} ha h => by
    cases hn : a.length with
    | zero => omega
    | succ n =>
      by_cases q : b.length ≤ n
      · exact absurd ((h n).trans (co_out q)) (ha n hn)
      · omega
  exact ext_co (Nat.le_antisymm (hl ha h) (hl hb fun k => (h k).symm)) h
/-! ### products in brackets -/
def cf (f g : Nat → Int) : Nat → Int
  | 0 => f 0 * g 0
  | k + 1 => f 0 * g (k + 1) + cf (fun i => f (i + 1)) g k
theorem cf_zero (g : Nat → Int) : ∀ (k : Nat), cf (fun _ => 0) g k = 0
  | 0 => Int.zero_mul _
  | k + 1 => by show 0 * g (k + 1) + cf (fun _ => 0) g k = 0; rw [cf_zero g k]; omega
theorem cv_cf (b : List Int) : ∀ (k : Nat) (a : List Int), cv a b k = cf (co a) (co b) k
  | k, [] => by
    have : co [] = fun _ => (0 : Int) := rfl
    rw [this, cf_zero]; rfl
  | 0, x :: a => rfl
  | k + 1, x :: a => by
    show x * co b (k + 1) + cv a b k = x * co b (k + 1) + cf (co a) (co b) k
    rw [cv_cf b k a]
/-! ### the rest of the rest -/
abbrev Fu (n k : Nat) : Int := co (fullRow n) k
def Rf : Nat → Nat → (Nat → Int) → Int
  | 0, n, f => f 0 * Fu n 0
  | k + 1, n, f => f 0 * Fu n (k + 1) - Rf k (n - 2) (fun i => f (i + 1))
def rc (n : Nat) : Nat → List Int → Nat → Int
  | _, [], _ => 0
  | j, r :: rs, k => (if j ≤ k then sg j r * Fu (n - 2 * j) (k - j) else 0) + rc n (j + 1) rs k
theorem co_restAll (n : Nat) : ∀ (rs : List Int) (j : Nat) (tot : List Int) (k : Nat), tot.length = n / 2 + 1 → j + rs.length ≤ n / 2 + 1 → co (restAll n j tot rs) k = co tot k + rc n j rs k
  | [], j, tot, k, _, _ => by show co tot k = co tot k + 0; omega
  | r :: rs, j, tot, k, ht, hj => by
    rw [List.length_cons] at hj
    show co (restAll n (j + 1) (addAt j tot ((fullRow (n - 2 * j)).map (sg j r * ·))) rs) k = co tot k + ((if j ≤ k then sg j r * Fu (n - 2 * j) (k - j) else 0) + rc n (j + 1) rs k)
    rw [co_restAll n rs (j + 1) _ k (by rw [addAt_len]; exact ht) (by omega), co_addAt _ _ _ (by rw [List.length_map, full_len]; omega)]
    by_cases h : j ≤ k
    · rw [if_pos h, if_pos h, co_map]; exact Int.add_assoc _ _ _
    · rw [if_neg h, if_neg h]; omega
theorem sg_succ (j : Nat) (r : Int) : sg (j + 1) r = - sg j r := by
  unfold sg
  by_cases h : j % 2 = 1
  · rw [if_pos h, if_neg (by omega)]; omega
  · rw [if_neg h, if_pos (by omega)]
theorem rc_zero (n : Nat) : ∀ (rs : List Int) (j : Nat), rc n (j + 1) rs 0 = 0
  | [], j => rfl
  | r :: rs, j => by
    show (if j + 1 ≤ 0 then _ else 0) + rc n (j + 1 + 1) rs 0 = 0
    rw [if_neg (by omega), rc_zero n rs (j + 1)]; rfl
theorem rc_succ (n : Nat) : ∀ (rs : List Int) (j k : Nat), rc n (j + 1) rs (k + 1) = - rc (n - 2) j rs k
  | [], j, k => rfl
  | r :: rs, j, k => by
    show (if j + 1 ≤ k + 1 then sg (j + 1) r * Fu (n - 2 * (j + 1)) (k + 1 - (j + 1)) else 0) + rc n (j + 1 + 1) rs (k + 1) = - ((if j ≤ k then sg j r * Fu (n - 2 - 2 * j) (k - j) else 0) + rc (n - 2) (j + 1) rs k)
    rw [rc_succ n rs (j + 1) k, sg_succ, show n - 2 * (j + 1) = n - 2 - 2 * j by omega, show k + 1 - (j + 1) = k - j by omega]
    by_cases h : j ≤ k
    · rw [if_pos h, if_pos (by omega), Int.neg_mul]; omega
    · rw [if_neg h, if_neg (by omega)]; omega
theorem rc_Rf : ∀ (k n : Nat) (xs : List Int), rc n 0 xs k = Rf k n (co xs)
  | k, n, [] => by
    have : ∀ (k n : Nat), Rf k n (fun _ => 0) = 0 := fun k => by
      induction k with
      | zero => intro n; exact Int.zero_mul _
      | succ k ih => intro n; show 0 * Fu n (k + 1) - Rf k (n - 2) (fun _ => 0) = 0; rw [ih]; omega
    exact (this k n).symm
  | 0, n, x :: xs => by
    show (if 0 ≤ 0 then sg 0 x * Fu (n - 2 * 0) (0 - 0) else 0) + rc n 1 xs 0 = x * Fu n 0
    rw [rc_zero]
    show x * Fu n 0 + 0 = _
    omega
  | k + 1, n, x :: xs => by
    show x * Fu n (k + 1) + rc n (0 + 1) xs (k + 1) = x * Fu n (k + 1) - Rf k (n - 2) (co xs)
    rw [rc_succ, rc_Rf k (n - 2) xs]; omega
theorem co_restL {n : Nat} {xs : List Int} (h : xs.length ≤ n / 2 + 1) (k : Nat) : co (restL n xs) k = Rf k n (co xs) := by
  unfold restL
  rw [co_trim, co_restAll n xs 0 _ k (by rw [List.length_replicate]) (by omega), co_zeros, rc_Rf]; omega
theorem Rf_lin (c : Int) : ∀ (k n : Nat) (f g : Nat → Int), Rf k n (fun i => c * f i - g i) = c * Rf k n f - Rf k n g
  | 0, n, f, g => by show (c * f 0 - g 0) * Fu n 0 = c * (f 0 * Fu n 0) - g 0 * Fu n 0; rw [Int.sub_mul, Int.mul_assoc]
  | k + 1, n, f, g => by
    show (c * f 0 - g 0) * Fu n (k + 1) - Rf k (n - 2) (fun i => c * f (i + 1) - g (i + 1)) = c * (f 0 * Fu n (k + 1) - Rf k (n - 2) (fun i => f (i + 1))) - (g 0 * Fu n (k + 1) - Rf k (n - 2) (fun i => g (i + 1)))
    rw [Rf_lin c k (n - 2) (fun i => f (i + 1)) (fun i => g (i + 1)), Int.sub_mul, Int.mul_sub, Int.mul_assoc]; omega
theorem full_rest : ∀ n ≤ 60, restL n (fullRow n) = [1] := by decide +kernel
theorem Fu_zero : ∀ n ≤ 60, Fu n 0 = 1 := by decide +kernel
theorem Rf_full {n k : Nat} (hn : n ≤ 60) : Rf (k + 1) n (Fu n) = 0 := by
  have := co_restL (n := n) (xs := fullRow n) (by rw [full_len]; exact Nat.le_refl _) (k + 1)
  rw [full_rest n hn] at this
  exact this.symm.trans (co_out (by show 1 ≤ k + 1; omega))
theorem Rf_twice : ∀ (k n : Nat) (f : Nat → Int), n ≤ 60 → 2 * k ≤ n → Rf k n (fun i => Rf i n f) = f k
  | 0, n, f, hn, _ => by
    show f 0 * Fu n 0 * Fu n 0 = f 0
    rw [Fu_zero n hn, Int.mul_one, Int.mul_one]
  | k + 1, n, f, hn, hk => by
    have e := Rf_full (k := k) hn
    have e : Fu n 0 * Fu n (k + 1) - Rf k (n - 2) (fun i => Fu n (i + 1)) = 0 := e
    show f 0 * Fu n 0 * Fu n (k + 1) - Rf k (n - 2) (fun i => f 0 * Fu n (i + 1) - Rf i (n - 2) (fun i => f (i + 1))) = f (k + 1)
    rw [Rf_lin (f 0) k (n - 2) (fun i => Fu n (i + 1)) (fun i => Rf i (n - 2) (fun i => f (i + 1))), Rf_twice k (n - 2) (fun i => f (i + 1)) (by omega) (by omega)]
    have e2 : f 0 * (Fu n 0 * Fu n (k + 1)) = f 0 * Rf k (n - 2) (fun i => Fu n (i + 1)) := by rw [show Fu n 0 * Fu n (k + 1) = Rf k (n - 2) (fun i => Fu n (i + 1)) by omega]
    rw [Int.mul_assoc, e2]; omega
theorem rest_le (n : Nat) (xs : List Int) : (restL n xs).length ≤ n / 2 + 1 := by
  unfold restL trim
  rw [List.length_take, restAll_len, List.length_replicate]; omega
theorem rest_nz (n : Nat) (xs : List Int) : Nz (restL n xs) := nz_trim _
theorem rest_rest {n : Nat} {xs : List Int} (hn : n ≤ 60) (hx : Nz xs) (hl : xs.length ≤ n / 2 + 1) : restL n (restL n xs) = xs := by
  refine ext_nz (rest_nz _ _) hx fun k => ?_
  by_cases hk : 2 * k ≤ n
  · rw [co_restL (rest_le _ _)]
    have : co (restL n xs) = fun i => Rf i n (co xs) := funext fun i => co_restL hl i
    rw [this, Rf_twice k n _ hn hk]
  · rw [co_out (Nat.le_trans (rest_le _ _) (by omega)), co_out (by omega)]
/-! ### how great the numbers get -/
theorem Rf_bd {A : Nat} : ∀ (k n : Nat) (f : Nat → Int), n ≤ 60 → (∀ i, (f i).natAbs ≤ A) → (Rf k n f).natAbs ≤ (k + 1) * (A * 2 ^ 200) := by
  have hF : ∀ n ≤ 60, ∀ k, (Fu n k).natAbs ≤ 2 ^ 200 := fun n hn k => by
    have := getD_bd (T := 2 ^ 200) (by decide) (full_bd n hn) k
    exact Nat.le_of_lt this
  intro k
  induction k with
  | zero =>
    intro n f hn h
    show (f 0 * Fu n 0).natAbs ≤ (0 + 1) * _
    rw [Int.natAbs_mul, Nat.zero_add, Nat.one_mul]
    exact Nat.mul_le_mul (h 0) (hF n hn 0)
  | succ k ih =>
    intro n f hn h
    have h1 := ih (n - 2) (fun i => f (i + 1)) (by omega) (fun i => h (i + 1))
    have h2 : (f 0 * Fu n (k + 1)).natAbs ≤ A * 2 ^ 200 := by rw [Int.natAbs_mul]; exact Nat.mul_le_mul (h 0) (hF n hn _)
    show (f 0 * Fu n (k + 1) - Rf k (n - 2) (fun i => f (i + 1))).natAbs ≤ (k + 1 + 1) * _
    rw [Nat.succ_mul]
    generalize f 0 * Fu n (k + 1) = x at *
    generalize Rf k (n - 2) (fun i => f (i + 1)) = y at *
    omega
theorem rest_bd {n p : Nat} {xs : List Int} (hn : n ≤ 60) (hl : xs.length ≤ n / 2 + 1) (h : Bd (2 ^ p) xs) : Bd (2 ^ (p + 210)) (restL n xs) := by
  intro x hx
  obtain ⟨k, hk, e⟩ := List.mem_iff_getElem.mp hx
  have ek : co (restL n xs) k = x := by
    unfold co
    rw [List.getD_eq_getElem?_getD, List.getElem?_eq_getElem hk, e]; rfl
  rw [← ek, co_restL hl]
  have hk2 := rest_le n xs
  have b := Rf_bd (A := 2 ^ p) k n (co xs) hn fun i => Nat.le_of_lt (getD_bd (Nat.two_pow_pos p) h i)
  refine Nat.lt_of_le_of_lt b ?_
  rw [← Nat.pow_add, show p + 210 = 10 + (p + 200) by omega, Nat.pow_add 2 10]
  exact Nat.mul_lt_mul_of_pos_right (by omega) (Nat.two_pow_pos _)
theorem prod_bd {p q : Nat} {a b : List Int} (ha : Bd (2 ^ p) a) (hb : Bd (2 ^ q) b) (la : a.length ≤ 40) (lb : b.length ≤ 40) : Bd (2 ^ (p + q + 12)) (mulL a b) := by
  refine (mulL_bd ha hb).up ?_
  rw [← Nat.pow_add, show p + q + 12 = 12 + (p + q) by omega, Nat.pow_add 2 12]
  have h0 := Nat.two_pow_pos (p + q)
  generalize 2 ^ (p + q) = Z at *
  have h1 : a.length * (b.length * Z) ≤ 40 * (40 * Z) := Nat.mul_le_mul la (Nat.mul_le_mul_right _ lb)
  omega
end Px
set_option maxHeartbeats 1000000
namespace Px
open PySem L2 Q2 Pf
open Pw (fDet fDet_of f_row_product)
/-! ### a number of places, and a row that goes with it -/
structure Gd (p n : Nat) (a : List Int) : Prop where
  n60 : n ≤ 60
  le : a.length ≤ n / 2 + 1
  nz : Nz a
  hd : co a 0 ≠ 0
  bd : Bd (2 ^ p) a
theorem Bd.pow {p q : Nat} {a : List Int} (h : Bd (2 ^ p) a) (hq : p ≤ q) : Bd (2 ^ q) a := fun x hx => Nat.lt_of_lt_of_le (h x hx) (Nat.pow_le_pow_right (by decide) hq)
theorem Gd.up {p q n : Nat} {a : List Int} (h : Gd p n a) (hq : p ≤ q) : Gd q n a := ⟨h.n60, h.le, h.nz, h.hd, Bd.pow h.bd hq⟩
theorem Gd.rest {p n : Nat} {a : List Int} (h : Gd p n a) : Gd (p + 210) n (restL n a) := by
  refine ⟨h.n60, rest_le _ _, rest_nz _ _, ?_, rest_bd h.n60 h.le h.bd⟩
  rw [co_restL h.le]
  show co a 0 * Fu n 0 ≠ 0
  rw [Fu_zero n h.n60, Int.mul_one]
  exact h.hd
theorem Gd.ne {p n : Nat} {a : List Int} (h : Gd p n a) : a ≠ [] := fun z => h.hd (by rw [z]; rfl)
theorem Gd.mul {p q n m : Nat} {a b : List Int} (h : Gd p n a) (g : Gd q m b) (hn : n + m ≤ 60) : Gd (p + q + 12) (n + m) (mulL a b) := by
  have h1 := h.le
  have h2 := g.le
  refine ⟨hn, ?_, h.nz.mulL g.nz, ?_, prod_bd h.bd g.bd (by have := h.n60; omega) (by have := g.n60; omega)⟩
  · rw [mulL_length h.ne g.ne]; omega
  · rw [co_mulL, cv_cf]
    exact Int.mul_ne_zero h.hd g.hd
theorem Gd.back {p n : Nat} {a : List Int} (h : Gd p n a) : restL n (restL n a) = a := rest_rest h.n60 h.nz h.le
theorem Gd.big {p n : Nat} {a : List Int} (h : Gd p n a) (hp : p ≤ 20000) : Bd (2 ^ 20000) a := Bd.pow h.bd hp
def joinL (n : Nat) (a : List Int) (m : Nat) (b : List Int) : List Int := restL (n + m) (mulL (restL n a) (restL m b))
theorem Gd.join {p q n m : Nat} {a b : List Int} (h : Gd p n a) (g : Gd q m b) (hn : n + m ≤ 60) : Gd (p + q + 642) (n + m) (joinL n a m b) := (h.rest.mul g.rest hn).rest.up (by omega)
/-! ### joined rows -/
theorem Gd.ok {p n : Nat} {a : List Int} (h : Gd p n a) (hp : p ≤ 20000) : ROk n a := ⟨h.n60, h.le, h.big hp⟩
/-! ### two of them -/
abbrev pr (n : Nat) (a : List Int) : D := .tup [.int (n : Int), .tup (zs a)]
def shP (n : Nat) (a : List Int) : Str := (PyData.tuple [.int (n : Int), .tuple (a.map .int)]).shown
theorem repr_pr {n : Nat} {a : List Int} {S : Store} (hn : n ≤ 60) (ha : Bd (2 ^ 1920) a) (la : a.length ≤ 1000) : fRepr [pr n a] S = some (.str (shP n a), S) := by
  have e : toP S 8 (pr n a) = some (PyData.tuple [.int (n : Int), .tuple (a.map .int)]) := by
    show (mapO (toP S 7) [.int (n : Int), .tup (zs a)]).map PyData.tuple = _
    simp only [mapO, toP_ints]; rfl
  show (toP S 8 _).bind _ = _
  rw [e]
  refine if_pos (Rp.ok (k := 2) (n := 4000) (Rp.up (Rp.tup (RpA.cons ((Rp.int (i := (n : Int)) (Nat.lt_of_le_of_lt (show ((n : Int)).natAbs ≤ 60 by omega) (Nat.lt_of_lt_of_le (show 60 < 2 ^ 6 by decide) (Nat.pow_le_pow_right (by decide) (by decide))))).up (Nat.zero_le 1) (Nat.le_refl 0)) (RpA.cons (Rp.tup (RpA.ints ha)) (RpA.nil.up (Nat.zero_le _) (Nat.le_refl _))))) (by decide) (by omega)) (by decide) (by decide))
end Px
set_option maxHeartbeats 1000000
namespace Px
open PySem L2 Q2 Pf
open Pw (fDet fDet_of evAnd_t evAnd_f)
/-! ### a list made of some of another -/
open Classical in
theorem lcL_filt {α : Type} {G : Store → Prop} {tg : Tg} {tt : EvT} {te : Ev} {σ : Sg} {S : Store} (f g : α → D) (c : α → Bool) (hG : ∀ acc, G (S ++ [.lst acc])) : ∀ (xs : List α) (acc : List D), (∀ x ∈ xs, ∃ σ2, setD tg (f x) σ = some σ2 ∧ (∀ acc, tt σ2 (S ++ [.lst acc]) = some (c x, S ++ [.lst acc])) ∧ ∀ acc, te σ2 (S ++ [.lst acc]) = some (g x, S ++ [.lst acc])) → acc.length + xs.length ≤ 100000 →
    lcL G tg tt te σ S.length (xs.map f) (S ++ [.lst acc]) = some (S ++ [.lst (acc ++ (xs.filter c).map g)])
  | [], acc, _, _ => by rw [List.map_nil, List.filter_nil, List.map_nil, List.append_nil]; exact lcL_nil (hG _)
  | x :: xs, acc, h, hl => by
    rw [List.length_cons] at hl
    obtain ⟨σ2, h1, h2, h3⟩ := h x List.mem_cons_self
    have e : lcL G tg tt te σ S.length ((x :: xs).map f) (S ++ [.lst acc]) = (if G (S ++ [.lst acc]) then (setD tg (f x) σ).bind fun σ2 => (tt σ2 (S ++ [.lst acc])).bind fun b => if b.1 = true then (te σ2 b.2).bind fun y => (match y.2[S.length]? with
      | some (Cell.lst acc) => if acc.length < 100000 then lcL G tg tt te σ S.length (xs.map f) (y.2.set S.length (.lst (acc ++ [y.1]))) else none
      | _ => none) else lcL G tg tt te σ S.length (xs.map f) b.2 else none) := rfl
    rw [e, if_pos (hG _), h1]
    show (tt σ2 (S ++ [.lst acc])).bind _ = _
    rw [h2 acc]
    cases hc : c x with
    | false =>
      rw [List.filter_cons_of_neg (by rw [hc]; decide)]
      exact lcL_filt f g c hG xs acc (fun y hy => h y (List.mem_cons_of_mem _ hy)) (by omega)
    | true =>
      rw [List.filter_cons_of_pos hc]
      show (te σ2 (S ++ [.lst acc])).bind _ = _
      rw [h3 acc]
      have gl : (S ++ [Cell.lst acc])[S.length]? = some (Cell.lst acc) := get_last
      show (match (S ++ [Cell.lst acc])[S.length]? with
        | some (Cell.lst acc') => if acc'.length < 100000 then lcL G tg tt te σ S.length (xs.map f) ((S ++ [Cell.lst acc]).set S.length (.lst (acc' ++ [g x]))) else none
        | _ => none) = _
      rw [gl]
      show (if acc.length < 100000 then lcL G tg tt te σ S.length (xs.map f) ((S ++ [Cell.lst acc]).set S.length (.lst (acc ++ [g x]))) else none) = _
      rw [if_pos (by omega), set_last]
      have := lcL_filt (G := G) (tg := tg) (tt := tt) (te := te) (σ := σ) (S := S) f g c hG xs (acc ++ [g x]) (fun y hy => h y (List.mem_cons_of_mem _ hy)) (by rw [List.length_append, List.length_singleton]; omega)
      rw [this, List.append_assoc]; rfl
/-! ### places that are taken -/
def Us (n : Nat) (u : List Int) : Prop := u.Nodup ∧ ∀ x ∈ u, 0 ≤ x ∧ x < n
theorem Us.len : ∀ {n : Nat} {u : List Int}, Us n u → u.length ≤ n
  | 0, u, h => by
    cases u with
    | nil => exact Nat.le_refl _
    | cons x u => have := h.2 x List.mem_cons_self; omega
  | n + 1, u, h => by
    by_cases m : (n : Int) ∈ u
    · have : Us n (u.erase (n : Int)) := ⟨h.1.erase _, fun x hx => by
        have h1 := (h.1.mem_erase_iff).mp hx
        have h2 := h.2 x h1.2
        have := h1.1
        omega⟩
      have l := this.len
      rw [List.length_erase_of_mem m] at l
      omega
    · have : Us n u := ⟨h.1, fun x hx => by
        have h2 := h.2 x hx
        have : x ≠ (n : Int) := fun z => m (z ▸ hx)
        omega⟩
      have := this.len
      omega
/-! ### the row of a web -/
abbrev tp (t : Int × Int) : D := .tup [.int t.1, .int t.2]
abbrev pw (n : Nat) (ts : List (Int × Int)) : D := .tup [.int (n : Int), .tup (ts.map tp)]
end Px
set_option maxHeartbeats 1000000
namespace Px
open PySem L2 Q2 Pf
open Pw (fDet fDet_of evAnd_t evAnd_f)
end Px
set_option maxHeartbeats 1000000
namespace Px
open PySem L2 Q2 Pf
open Pw (fDet fDet_of evAnd_t evAnd_f)
theorem range_from (i n : Nat) : rangeD ((i : Nat) : Int) n = from_ i n := by
  unfold rangeD from_
  rw [List.range'_eq_map_range, List.map_map]
  rfl
/-! ### the webs that are drawn -/
end Px
set_option maxHeartbeats 1000000
namespace Px
open PySem L2 Q2 Pf
open Pw (fDet fDet_of evAnd_t evAnd_f)
/-! ### some number of places and a row -/
end Px
set_option maxHeartbeats 1000000
namespace Px
open PySem L2 Q2 Pf
open Pw (fDet fDet_of evAnd_t evAnd_f)
/-! ### three of them -/
theorem Gd.rp {p n : Nat} {a : List Int} {S : Store} (h : Gd p n a) (hp : p ≤ 1920) : fRepr [pr n a] S = some (.str (shP n a), S) := repr_pr h.n60 (Bd.pow h.bd hp) (by have := h.n60; have := h.le; omega)
end Px
set_option maxHeartbeats 400000
namespace Px
open PySem L2 Q2 Pf
open Pw (fDet fDet_of evAnd_t evAnd_f)
end Px
set_option maxHeartbeats 400000
namespace Px
open PySem L2 Q2 Pf
open Pw (fDet fDet_of evAnd_t evAnd_f)
end Px
set_option maxHeartbeats 1000000
namespace Px
open PySem L2 Q2 Pf
open Pw (fDet fDet_of)
/-! ### sided rows -/
end Px
set_option maxHeartbeats 1000000
namespace Pt
open PySem L2 Q2 Pf
/-! ### a def that leaves nothing behind -/
noncomputable def fPure (m : Sv) (N : List Str) (k : Nat) : Fn := fSem m N fun ds S d S' => ds.length = k ∧ S' = S ∧ ∃ U, m (startD N ds) S = some (.rt d U)
theorem pure_sem {m : Sv} {N : List Str} {k : Nat} : ∀ ds S d S', fPure m N k ds S = some (d, S') → Sem m N ds S d S' := fun _ _ _ _ e => (fSem_both e).1
theorem pure_ar {m : Sv} {N : List Str} {k : Nat} : ∀ ds S r, fPure m N k ds S = some r → ds.length = k := fun _ _ _ e => (fSem_both (d := _) (S' := _) e).2.1
theorem pure_of {m : Sv} {N : List Str} {k : Nat} {ds : List D} {S U : Store} {d : D} (h : Sem m N ds S d S) (run : m (startD N ds) S = some (.rt d U)) (hk : ds.length = k) : fPure m N k ds S = some (d, S) := by
  obtain ⟨d', S', e, h1, rfl, U', run'⟩ := fSem_ex (P := fun ds S d S' => ds.length = k ∧ S' = S ∧ ∃ U, m (startD N ds) S = some (.rt d U)) h ⟨hk, rfl, U, run⟩
  rw [run] at run'
  cases run'
  exact e
theorem pure_rt {m : Sv} {N : List Str} {k : Nat} {ds : List D} {S : Store} {d : D} (h : m (startD N ds) S = some (.rt d S)) (hk : ds.length = k) : fPure m N k ds S = some (d, S) := pure_of (Sem.rt h) h hk
theorem pure_app {m : Sv} {N : List Str} {k : Nat} {ds : List D} {S U : Store} {d : D} (h : m (startD N ds) S = some (.rt d (S ++ U))) (hd : d.cl = true) (hk : ds.length = k) : fPure m N k ds S = some (d, S) := pure_of (Sem.dropA h hd) h hk
/-- names are but places -/
theorem Sem.names {mb : Sv} {N N' : List Str} (h : N.length = N'.length) {ds : List D} {S : Store} {d : D} {S' : Store} (a : Sem mb N ds S d S') : Sem mb N' ds S d S' := by
  obtain ⟨f1, d1, T1, e1, o1, g1⟩ := a
  refine ⟨f1, d1, T1, ?_, o1, g1⟩
  unfold startD at e1 ⊢
  rw [← h]; exact e1
/-! ### tuple(.. for .. for ..) of what nothing changes -/
/-! ### ties of webs as they are shown -/
abbrev tpP (t : Int × Int) : PyData := .tuple [.int t.1, .int t.2]
abbrev pwP (n : Nat) (ts : List (Int × Int)) : PyData := .tuple [.int (n : Int), .tuple (ts.map tpP)]
theorem dat_ties {S : Store} {q : Nat → Prop} {B : Nat} : ∀ {ts : List (Int × Int)}, (∀ t ∈ ts, t.1.natAbs ≤ B ∧ t.2.natAbs ≤ B) → DatL S q B (ts.map Px.tp) (ts.map tpP)
  | [], _ => .nil
  | t :: ts, h => .cons (.tup (.cons (.int (h t List.mem_cons_self).1) (.cons (.int (h t List.mem_cons_self).2) .nil))) (dat_ties fun u hu => h u (List.mem_cons_of_mem _ hu))
theorem dat_web {S : Store} {q : Nat → Prop} {B n : Nat} {ts : List (Int × Int)} (hn : n ≤ B) (h : ∀ t ∈ ts, t.1.natAbs ≤ B ∧ t.2.natAbs ≤ B) : Dat S q B (Px.pw n ts) (pwP n ts) := .tup (.cons (.int (by omega)) (.cons (.tup (dat_ties h)) .nil))
end Pt
set_option maxHeartbeats 1000000
namespace Pm
open PySem L2 Q2 Pf
open Pw (allL_of)
open Ss (ltP sortP sortP_perm sortP_up Up ltP_trans)
open Pt (fPure pure_rt pure_app pure_sem pure_ar)
open Px (tp range_from)
/-! ### what is a web -/
/-! ### rising ties -/
end Pm
set_option maxHeartbeats 1000000
namespace Pm
open PySem L2 Q2 Pf
open Pw (allL_of)
open Ss (ltP sortP sortP_perm sortP_up Up ltP_trans)
open Pt (fPure pure_rt pure_app pure_sem pure_ar tpP dat_ties)
open Px (tp range_from)
/-! ### webs looked at, both ways -/
/-! ### the law's own look -/
end Pm
set_option maxHeartbeats 1000000
namespace Po
open PySem L2 Q2 Pf
open Pw (evAnd_t evAnd_f)
/-! ### a feed kept in a dict, and a number taken of it -/
abbrev FD (q : Nat) (b c t : Int) : Cell := .dk [(.inr "cells", .loc q), (.inr "at", .int b), (.inr "left", .int c), (.inr "turn", .int t)]
structure Fe (S : Store) (fl B : Nat) : Prop where
  ex : ∃ ns b c t, S[fl]? = some (FD (fl + 2) b c t) ∧ S[fl + 2]? = some (Cell.lst (zs ns)) ∧ b.natAbs ≤ B ∧ t.natAbs ≤ B
theorem Fe.lt {S : Store} {fl B : Nat} (h : Fe S fl B) : fl + 2 < S.length := by
  obtain ⟨ns, b, c, t, _, h, _⟩ := h.ex
  exact (List.getElem?_eq_some_iff.mp h).1
theorem Fe.app {S U : Store} {fl B : Nat} (h : Fe S fl B) : Fe (S ++ U) fl B := by
  obtain ⟨ns, b, c, t, h1, h2, h3⟩ := h.ex
  exact ⟨ns, b, c, t, getW h1, getW h2, h3⟩
theorem Fe.set {S : Store} {fl i B : Nat} {c : Cell} (h : Fe S fl B) (hi : fl + 2 < i) : Fe (S.set i c) fl B := by
  obtain ⟨ns, b, c, t, h2, h3, h4⟩ := h.ex
  exact ⟨ns, b, c, t, by rw [List.getElem?_set_ne (by omega)]; exact h2, by rw [List.getElem?_set_ne (by omega)]; exact h3, h4⟩
theorem Fe.up {S : Store} {fl B B' : Nat} (h : Fe S fl B) (hB : B ≤ B') : Fe S fl B' := by
  obtain ⟨ns, b, c, t, h1, h2, h3, h4⟩ := h.ex
  exact ⟨ns, b, c, t, h1, h2, by omega, by omega⟩
section
variable {S : Store} {fl q : Nat} {b c t : Int}
end
end Po
namespace Po
/-! ### sums up to a number; Newton's sums -/
def su (f : Nat → Int) : Nat → Int
  | 0 => 0
  | n + 1 => su f n + f n
/-- T are Newton's sums of what has a i at i from the top, n being the first -/
structure Newt (a : Nat → Int) (n : Int) (T : Nat → Int) : Prop where
  zero : T 0 = n
  step : ∀ k, T (k + 1) = -((k : Int) + 1) * a (k + 1) - su (fun i => a (i + 1) * T (k - i)) k
/-! ### one root more -/
end Po
namespace Po
/-! ### powers of a companion table: row i of the k-th is x to the i + k by the poly -/
end Po
set_option maxHeartbeats 1000000
namespace Pt
open PySem L2 Q2 Pf Ss
open Px (tp pw range_from)
/-! ### the webs of told kinds -/
/-! sorted, as a tuple -/
theorem sorted_of {d : D} {S : Store} {ps : List (Int × Int)} (h : itemsD d S = some (ps.map tp)) (hc : ps.Nodup ∧ ps.length < 64) : fSorted [d] S = some (.loc S.length, S ++ [.lst ((sortP ps).map tp)]) := by
  show (itemsD d S).bind _ = _
  rw [h]
  show (prs (ps.map pairD)).bind _ = _
  rw [prs_of]
  exact if_pos hc
theorem cl_ties : ∀ ts : List (Int × Int), D.clL (ts.map tp) = true
  | [] => rfl
  | t :: ts => by
    show (D.cl (tp t) && D.clL (ts.map tp)) = true
    rw [cl_ties ts]; rfl
theorem cl_web {n : Nat} {ts : List (Int × Int)} : D.cl (pw n ts) = true := by
  show (D.cl (.int (n : Int)) && (D.cl (.tup (ts.map tp)) && true)) = true
  rw [show D.cl (.tup (ts.map tp)) = D.clL (ts.map tp) from rfl, cl_ties]; rfl
end Pt
set_option maxHeartbeats 1000000
namespace Py
open PySem L2 Q2 Pf
open Pw (fc0 fc1 fc2 fp1 fp2 evAnd_t evAnd_f fDet fDet_of)
open Px (Ft)
/-! ### a number is drawn -/
end Py
set_option maxHeartbeats 1000000
namespace Py
open PySem L2 Q2 Pf
open Pw (fc0 fc1 fc2 fp1 fp2 evAnd_t evAnd_f fDet fDet_of)
open Px (Ft lcL_filt)
/-! ### up and down, gone through -/
end Py
set_option maxHeartbeats 1000000
namespace Py
open PySem L2 Q2 Pf
open Pw (fc0 fc1 fc2 fp1 fp2 evAnd_t evAnd_f fDet fDet_of)
/-! ### the first dent -/
end Py
set_option maxHeartbeats 1000000
namespace Py
open PySem L2 Q2 Pf
open Pw (fc0 fc1 fc2 fp1 fp2 evAnd_t evAnd_f fDet fDet_of)
open Px (Ft)
/-! ### a row with the told squares -/
structure Rw (S : Store) (q : Nat) (ns : List Int) (p : Nat) : Prop where
  at_ : S[q]? = some (.lst (zs ns))
  lo : 1 ≤ ns.length
  hi : ns.length ≤ 40
  bd : Bd (2 ^ p) ns
  nn : ∀ n ∈ ns, 0 ≤ n
end Py
set_option maxHeartbeats 1000000
namespace Py
open PySem L2 Q2 Pf
open Pw (fc0 fc1 fc2 fp1 fp2 evAnd_t evAnd_f fDet fDet_of)
open Px (Ft)
/-! ### items of a list, by place and from behind -/
theorem Rw.mono {S S' : Store} {fl q p : Nat} {ns : List Int} (h : Rw S q ns p) (hs : Sm fl S S') (hq : q ≠ fl) : Rw S' q ns p := ⟨hs.get hq h.at_, h.lo, h.hi, h.bd, h.nn⟩
/-! ### any row -/
end Py
set_option maxHeartbeats 1000000
namespace Py
open PySem L2 Q2 Pf
open Pw (fc0 fc1 fc2 fp1 fp2 evAnd_t evAnd_f fDet fDet_of)
open Px (Ft)
end Py
set_option maxHeartbeats 1000000
namespace Py
open PySem L2 Q2 Pf
open Pw (fDet fDet_of evAnd_t evAnd_f repr_bl)
open Px (Ft)
end Py
set_option maxHeartbeats 1000000
namespace Py
open PySem L2 Q2 Pf
open Pw (fDet fDet_of evAnd_t evAnd_f)
/-! ### the program's dent -/
/-! ### up, then down -/
end Py
set_option maxHeartbeats 1000000
namespace Pt
open PySem L2 Q2 Pf Ss
open Px (tp pw range_from)
/-! ### expressions that make a list -/
def Mk (e : Ev) (σ : Sg) (S : Store) (xs : List D) : Prop := ∃ U p, e σ S = some (.loc p, S ++ U) ∧ (S ++ U)[p]? = some (.lst xs)
theorem Mk.lst {mr : EvA} {σ : Sg} {S : Store} {xs : List D} (h : mr σ S = some (xs, S)) (hl : xs.length ≤ 1000) : Mk (evLst mr) σ S xs := ⟨[.lst xs], S.length, evLst_of h hl, get_last⟩
theorem Mk.list {ma : Ev} {σ : Sg} {S : Store} {xs : List D} (h : ma σ S = some (.tup xs, S)) : Mk (evF fList (eaCons ma eaNil)) σ S xs := ⟨[.lst xs], S.length, evF_of (ea1 h) rfl, get_last⟩
theorem Mk.set {e : Ev} {i : Nat} {σ : Sg} {S : Store} {xs : List D} (h : Mk e σ S xs) : ∃ U p, sSet i e σ S = some (.nx (σ.set i (some (.loc p))) (S ++ U)) ∧ (S ++ U)[p]? = some (.lst xs) := by
  obtain ⟨U, p, e1, g⟩ := h
  exact ⟨U, p, sSet_of e1, g⟩
/-! ### a row and another one, one size on -/
end Pt
set_option maxHeartbeats 1000000
namespace Pt
open PySem L2 Q2 Pf Ss
open Px (tp pw range_from fullRow)
open Pw (evAnd_t evAnd_f)
/-! ### a def as it runs -/
/-! ### alike -/
theorem ne_str {x : Str} {S : Store} : oNe (.str x) (.str x) S = some (.bl false, S) := by
  show some (D.bl (!decide (x = x)), S) = _
  rw [decide_eq_true rfl]; rfl
/-! ### rows grown -/
end Pt
set_option maxHeartbeats 1000000
namespace Pt
open PySem L2 Q2 Pf Ss
open Px (tp pw range_from fullRow)
open Pw (evAnd_t evAnd_f append_at)
/-! ### rows grown -/
/-! ### the law's look at rows -/
end Pt
set_option maxHeartbeats 1000000
namespace Pt
open PySem L2 Q2 Pf Ss
open Px (tp pw range_from fullRow lcL_filt)
open Pw (evAnd_t evAnd_f append_at)
/-! ### rows by going through -/
end Pt
set_option maxHeartbeats 1000000
namespace Pt
open PySem L2 Q2 Pf Ss
open Px (tp pw range_from)
open Pw (evAnd_t evAnd_f append_at)
/-! ### the law's look at webs -/
theorem tuple_loc {S : Store} {p : Nat} {xs : List D} (h : S[p]? = some (.lst xs)) : fTuple [.loc p] S = some (.tup xs, S) := by
  show (itemsD (.loc p) S).map _ = _
  rw [itemsD_of (.inl h)]; rfl
end Pt
set_option maxHeartbeats 1000000
namespace Pt
open PySem L2 Q2 Pf Ss
open Px (tp pw Ft)
/-! ### the law -/
end Pt
set_option maxHeartbeats 1000000
namespace Po
open PySem L2 Q2 Pf
open Pt (fPure pure_rt pure_app pure_sem pure_ar)
open Px (range_from)
/-! ### the program's sums -/
theorem expr_append {o : Ev} {r : EvA} {σ : Sg} {S S1 S2 : Store} {n : Nat} {x : D} {xs ys : List D} (h1 : o σ S = some (.loc n, S1)) (h2 : r σ S1 = some ([x], S2)) (h0 : S1[n]? = some (Cell.lst ys)) (h3 : S2[n]? = some (Cell.lst xs)) (hl : xs.length < 100000) : sExpr (evM fAppend o r) σ S = some (.nx σ (S2.set n (.lst (xs ++ [x])))) := by
  unfold sExpr
  rw [evM_of h1 h2 (Pw.append_at h3 hl) (notD_lst h0)]; rfl
def nd (p : List Int) (i : Nat) : Int := if i < p.length then co p (p.length - 1 - i) else 0
end Po
set_option maxHeartbeats 1000000
namespace Po
open PySem L2 Q2 Pf
open Pt (fPure pure_rt pure_app pure_sem pure_ar)
open Px (range_from)
/-! ### what a def gives, all that it leaves told -/
noncomputable def fRun (m : Sv) (N : List Str) (k : Nat) : Fn := fun ds S => if ds.length = k then (match m (startD N ds) S with
  | some (.rt d S') => some (d, S')
  | _ => none) else none
theorem run_ar {m : Sv} {N : List Str} {k : Nat} : ∀ ds S r, fRun m N k ds S = some r → ds.length = k := fun ds S r e => by
  unfold fRun at e
  split at e
  · assumption
  · cases e
theorem run_sem {m : Sv} {N : List Str} {k : Nat} : ∀ ds S d S', fRun m N k ds S = some (d, S') → Sem m N ds S d S' := fun ds S d S' e => by
  unfold fRun at e
  split at e
  · split at e
    · next h => cases e; exact Sem.rt h
    · cases e
  · cases e
theorem run_of {m : Sv} {N : List Str} {k : Nat} {ds : List D} {S S' : Store} {d : D} (h : m (startD N ds) S = some (.rt d S')) (hk : ds.length = k) : fRun m N k ds S = some (d, S') := by
  unfold fRun
  rw [if_pos hk, h]
/-! ### the law's products -/
theorem cv_two (p : List Int) (r : Int) (k : Nat) : cv p [-r, 1] k = -r * co p k + (if k = 0 then 0 else co p (k - 1)) := by
  rw [cv_cons]
  cases k with
  | zero => rfl
  | succ k =>
    show -r * co p (k + 1) + cv p [1] k = _
    rw [cv_cons, if_neg (by omega), Nat.add_sub_cancel]
    cases k with
    | zero => show _ + (1 * co p 0 + 0) = _; omega
    | succ k => show _ + (1 * co p (k + 1) + cv p [] k) = _; rw [cv_nil]; omega
/-- a poly whose last number is 1 -/
structure Mo (p : List Int) (m : Nat) (A : Nat) : Prop where
  len : p.length = m + 1
  one : co p m = 1
  bd : ∀ k, (co p k).natAbs ≤ A
theorem Mo.next {p : List Int} {m A : Nat} (h : Mo p m A) {r : Int} (hr : r.natAbs ≤ 5) : Mo (mulL p [-r, 1]) (m + 1) (6 * A) := by
  have hp : p ≠ [] := fun z => by have := h.len; rw [z] at this; simp at this
  have out : ∀ k, m < k → co p k = 0 := fun k hk => by
    unfold co
    rw [List.getD_eq_getElem?_getD, List.getElem?_eq_none (by have := h.len; omega)]; rfl
  refine ⟨by rw [mulL_length hp (by simp), h.len]; rfl, ?_, fun k => ?_⟩
  · rw [co_mulL, cv_two, out (m + 1) (by omega), if_neg (by omega), Nat.add_sub_cancel, h.one]; omega
  · rw [co_mulL, cv_two]
    have a := h.bd k
    have b := h.bd (k - 1)
    have c : (-r * co p k).natAbs ≤ 5 * A := by
      rw [Int.natAbs_mul, Int.natAbs_neg]
      exact Nat.mul_le_mul hr a
    split <;> omega
theorem Mo.nd {p : List Int} {m A : Nat} (h : Mo p m A) {r : Int} (i : Nat) : nd (mulL p [-r, 1]) (i + 1) = nd p (i + 1) - r * nd p i := by
  have hp : p ≠ [] := fun z => by have := h.len; rw [z] at this; simp at this
  have l1 := h.len
  have l2 : (mulL p [-r, 1]).length = m + 2 := by rw [mulL_length hp (by simp), h.len]; rfl
  unfold Po.nd
  rw [l1, l2]
  by_cases h1 : i + 1 < m + 2
  · rw [if_pos h1, if_pos (show i < m + 1 by omega), co_mulL, cv_two]
    by_cases h2 : i + 1 < m + 1
    · rw [if_pos h2, if_neg (by omega), show m + 2 - 1 - (i + 1) = m + 1 - 1 - i by omega, show m + 1 - 1 - i - 1 = m + 1 - 1 - (i + 1) by omega]
      rw [Int.neg_mul]; omega
    · rw [if_neg h2, if_pos (by omega), show m + 2 - 1 - (i + 1) = m + 1 - 1 - i by omega, Int.neg_mul]; omega
  · rw [if_neg h1, if_neg (by omega), if_neg (by omega), Int.mul_zero]; omega
end Po
set_option maxHeartbeats 1000000
namespace Pf
open PySem L2 Q2
/-! ### False in [right(x) for x in things] -/
theorem lcL_mapG {α : Type} {G : Store → Prop} {tg : Tg} {te : Ev} {σ : Sg} {S : Store} (f g : α → D) (hG : ∀ acc, G (S ++ [.lst acc])) : ∀ (xs : List α) (acc : List D), (∀ x ∈ xs, ∃ σ2, setD tg (f x) σ = some σ2 ∧ ∀ acc, te σ2 (S ++ [.lst acc]) = some (g x, S ++ [.lst acc])) → acc.length + xs.length ≤ 100000 →
    lcL G tg evYes te σ S.length (xs.map f) (S ++ [.lst acc]) = some (S ++ [.lst (acc ++ xs.map g)])
  | [], acc, _, _ => by rw [List.map_nil, List.map_nil, List.append_nil]; exact lcL_nil (hG _)
  | x :: xs, acc, h, hl => by
    rw [List.length_cons] at hl
    obtain ⟨σ2, h1, h2⟩ := h x List.mem_cons_self
    refine (lcL_cons (hG _) h1 (h2 acc) get_last (by omega)).trans ?_
    rw [set_last]
    have := lcL_mapG (te := te) (σ := σ) (tg := tg) (S := S) f g hG xs (acc ++ [g x]) (fun y hy => h y (List.mem_cons_of_mem _ hy)) (by rw [List.length_append, List.length_singleton]; omega)
    rw [this, List.append_assoc]; rfl
theorem right_all {T : Store} {q : Nat → Prop} {σ : Sg} {v n : Nat} {xs : List D} (hv : σ[v]? = some (some (.loc n))) (hn : T[n]? = some (.lst xs)) (hl : xs.length ≤ 1000) (hx : ∀ x ∈ xs, Th T q 4 x) (hσ : ∀ d, ∃ σ2, setD (.nm 2) d (wipeD σ [2]) = some σ2 ∧ σ2[2]? = some (some d)) :
    evTGc (evB (ev2 (oIn false) (evC (.bl false)) (evLC (evSeq (evVar v)) (.nm 2) (evYes) (evF f_law_right (eaCons (evVar 2) (eaNil))) [2]))) σ T = some (false, T) := by
  have vv : evVar v σ T = some (.loc n, T) := by unfold evVar; rw [hv]; rfl
  have it : evSeq (evVar v) σ T = some (xs.map id, T, grd (.loc n) xs) := by
    unfold evSeq; rw [vv, List.map_id]
    show (itemsD (.loc n) T).map _ = _
    rw [itemsD_of (.inl hn)]; rfl
  have mono : ∀ U d, Th T q 4 d → Th (T ++ U) q 4 d := fun U d h => h.mono fun m c _ e => getW e
  have lc : evLC (evSeq (evVar v)) (.nm 2) (evYes) (evF f_law_right (eaCons (evVar 2) (eaNil))) [2] σ T = some (.loc T.length, T ++ [.lst (xs.map fun _ => D.bl true)]) := by
    refine evLC_of it ?_
    exact lcL_mapG (S := T) id (fun _ => D.bl true) (fun acc => .inl (getW hn)) xs [] (fun x hx' => by
      obtain ⟨σ2, e1, e2⟩ := hσ x
      refine ⟨σ2, e1, fun acc => ?_⟩
      have w : evVar 2 σ2 (T ++ [.lst acc]) = some (x, T ++ [.lst acc]) := by unfold evVar; rw [e2]; rfl
      exact evF_of (ea1 w) (spec_right (mono _ _ (hx x hx')) (Nat.le_refl _))) (by simp; omega)
  refine evTGc_app (U := [.lst (xs.map fun _ => D.bl true)]) (evB_of (ev2_of rfl lc ?_))
  refine (oIn_bls (xs := xs) (g := fun _ => true) get_last).trans ?_
  have e : (xs.all fun _ => true) = true := List.all_eq_true.mpr fun _ _ => rfl
  rw [e]; rfl
noncomputable def m_law : Sv := sSeq (sSet 1 (evLst (eaCons (evC .non) (eaCons (evC (.bl true)) (eaCons (evC (.int 0)) (eaCons (evC (.int 1)) (eaCons (evC (.str "")) (eaCons (evC (.str "1")) (eaCons (evTup (eaNil)) (eaCons (evLst (eaNil)) (eaCons (evTup (eaCons (evC (.int 0)) (eaNil))) (eaCons (evTup (eaCons (evC (.int 0)) (eaCons (evC (.int 1)) (eaNil)))) (eaCons (evTup (eaCons (evC (.int 1)) (eaCons (evC (.int 0)) (eaNil)))) (eaCons (evTup (eaCons (evC (.int 0)) (eaCons (evC (.int 0)) (eaNil)))) (eaCons (evTup (eaCons (evC (.int 2)) (eaCons (evC (.int 4)) (eaNil)))) (eaCons (evTup (eaCons (ev1 oNeg (evC (.int 3))) (eaCons (evC (.int 6)) (eaNil)))) (eaCons (evTup (eaCons (evC (.int 1)) (eaCons (ev1 oNeg (evC (.int 1))) (eaNil)))) (eaCons (evTup (eaCons (evC (.int 1)) (eaCons (evC (.int 2)) (eaCons (evC (.int 3)) (eaNil))))) (eaNil))))))))))))))))))) (sSeq (sIf (evTGc (evB (ev2 (oIn false) (evC (.bl false)) (evLC (evSeq (evVar 1)) (.nm 2) (evYes) (evF f_law_right (eaCons (evVar 2) (eaNil))) [2])))) (sRet (evC (.bl false))) (sSkip)) (sSeq (sFor (evRng (eaCons (ev2 oAdd (evC (.int 4)) (evF (fInt2 fun i j => if j < i then j else i) (eaCons (evC (.int 4)) (eaCons (evF fLen (eaCons (evVar 0) (eaNil))) (eaNil))))) (eaNil))) (.nm 3) (sSeq (sSet 4 (evF f_law_feed (eaCons (evVar 0) (eaCons (evVar 3) (eaNil))))) (sSeq (sSet 5 (evF fTuple (eaCons (evLC (evRng (eaCons (evF f_law_take (eaCons (evVar 4) (eaCons (evC (.int 6)) (eaNil)))) (eaNil))) (.nm 6) (evYes) (evF f_law_number (eaCons (evVar 4) (eaNil))) [6]) (eaNil)))) (sSeq (sSet 7 (evTup (eaCons (evF f_law_number (eaCons (evVar 4) (eaNil))) (eaCons (evF f_law_number (eaCons (evVar 4) (eaNil))) (eaNil))))) (sSeq (sSet 8 (evLst (eaCons (evVar 5) (eaCons (evVar 7) (eaCons (evF f_law_bent (eaCons (evVar 4) (eaCons (evVar 5) (eaNil)))) (eaCons (evF f_law_bent (eaCons (evVar 4) (eaCons (evVar 7) (eaNil)))) (eaNil))))))) (sSeq (sIf (evTru (ev1 (oIsi .tup) (ev2 oIx (evVar 8) (evC (.int 3))))) (sExpr (evM fAppend (evVar 8) (eaCons (evF f_law_bent (eaCons (evVar 4) (eaCons (ev2 oIx (evVar 8) (evC (.int 3))) (eaNil)))) (eaNil)))) (sSkip)) (sIf (evTGc (evB (ev2 (oIn false) (evC (.bl false)) (evLC (evSeq (evVar 8)) (.nm 2) (evYes) (evF f_law_right (eaCons (evVar 2) (eaNil))) [2])))) (sRet (evC (.bl false))) (sSkip)))))))) (sRet (evC (.bl true)))))
abbrev NL : List Str := ["_law_script", "_law_things", "_law_thing", "_law_k", "_law_feed_here", "_law_row", "_law_j", "_law_pair", "_law_some"]
noncomputable abbrev lb0 : Sv := sSet 4 (evF f_law_feed (eaCons (evVar 0) (eaCons (evVar 3) (eaNil))))
noncomputable abbrev teN : Ev := evF f_law_number (eaCons (evVar 4) (eaNil))
noncomputable abbrev lb1 : Sv := sSet 5 (evF fTuple (eaCons (evLC (evRng (eaCons (evF f_law_take (eaCons (evVar 4) (eaCons (evC (.int 6)) (eaNil)))) (eaNil))) (.nm 6) (evYes) teN [6]) (eaNil)))
noncomputable abbrev lb2 : Sv := sSet 7 (evTup (eaCons (evF f_law_number (eaCons (evVar 4) (eaNil))) (eaCons (evF f_law_number (eaCons (evVar 4) (eaNil))) (eaNil))))
noncomputable abbrev lb3 : Sv := sSet 8 (evLst (eaCons (evVar 5) (eaCons (evVar 7) (eaCons (evF f_law_bent (eaCons (evVar 4) (eaCons (evVar 5) (eaNil)))) (eaCons (evF f_law_bent (eaCons (evVar 4) (eaCons (evVar 7) (eaNil)))) (eaNil))))))
noncomputable abbrev lb4 : Sv := sIf (evTru (ev1 (oIsi .tup) (ev2 oIx (evVar 8) (evC (.int 3))))) (sExpr (evM fAppend (evVar 8) (eaCons (evF f_law_bent (eaCons (evVar 4) (eaCons (ev2 oIx (evVar 8) (evC (.int 3))) (eaNil)))) (eaNil)))) (sSkip)
noncomputable abbrev lb5 : Sv := sIf (evTGc (evB (ev2 (oIn false) (evC (.bl false)) (evLC (evSeq (evVar 8)) (.nm 2) (evYes) (evF f_law_right (eaCons (evVar 2) (eaNil))) [2])))) (sRet (evC (.bl false))) (sSkip)
noncomputable abbrev lbAll : Sv := sSeq lb0 (sSeq lb1 (sSeq lb2 (sSeq lb3 (sSeq lb4 lb5))))
theorem nil_bd' {A : Nat} : Bd A [] := fun _ h => nomatch h
theorem th_more {S : Store} {q q' : Nat → Prop} (hq : ∀ z, q' z → q z ∨ S.length ≤ z) : ∀ {k : Nat} {d : D}, Th S q k d → Th S q' k d
  | 0, .non, h => h
  | 0, .bl _, h => h
  | 0, .int _, h => h
  | 0, .str _, h => h
  | k + 1, .non, h => h
  | k + 1, .bl _, h => h
  | k + 1, .int _, h => h
  | k + 1, .str _, h => h
  | k + 1, .tup ds, h => ⟨h.1, fun d hd => th_more hq (h.2 d hd)⟩
  | k + 1, .loc n, h => by
    obtain ⟨h1, ds, h2, h3, h4⟩ := h
    refine ⟨fun z => ?_, ds, h2, h3, fun d hd => th_more hq (h4 d hd)⟩
    rcases hq n z with z | z
    · exact h1 z
    · have := (List.getElem?_eq_some_iff.mp h2).1
      omega
theorem run_nums {T : Store} {G : Store → Prop} (hG : ∀ S, G S) {a : Int} {σ : Sg} (hσ : ∀ d, ∃ σ2, setD (.nm 6) d σ = some σ2 ∧ σ2[4]? = some (some (.loc T.length))) : ∀ (items : List D) (acc : List Int) (b c : Int), 0 ≤ b → b + items.length < 2 ^ 50 → acc.length + items.length ≤ 100 → ∃ cs c', cs.length = items.length ∧ Bd (2 ^ 140) cs ∧
    lcL G (.nm 6) evYes teN σ (T.length + 1) items (T ++ C3 a b c :: [.lst (zs acc)]) = some (T ++ C3 a (b + items.length) c' :: [.lst (zs (acc ++ cs))])
  | [], acc, b, c, _, _, _ => ⟨[], c, rfl, nil_bd', by rw [List.append_nil]; simpa using lcL_nil (hG _)⟩
  | d :: items, acc, b, c, hb, hb2, hl => by
    rw [List.length_cons] at hb2 hl
    obtain ⟨x, c1, e, hx⟩ := spec_number (S := T ++ C3 a b c :: [.lst (zs acc)]) (n := T.length) get_last hb (by omega)
    rw [set_last] at e
    obtain ⟨σ2, s1, s2⟩ := hσ d
    obtain ⟨cs, c', l1, l2, ih⟩ := run_nums hG (a := a) hσ items (acc ++ [x]) (b + 1) c1 (by omega) (by omega) (by rw [List.length_append, List.length_singleton]; omega)
    refine ⟨x :: cs, c', by rw [List.length_cons, List.length_cons, l1], fun m hm => ?_, ?_⟩
    · rcases List.mem_cons.mp hm with rfl | hm
      · exact hx
      · exact l2 m hm
    · have w : evVar 4 σ2 (T ++ C3 a b c :: [.lst (zs acc)]) = some (.loc T.length, T ++ C3 a b c :: [.lst (zs acc)]) := by unfold evVar; rw [s2]; rfl
      refine (lcL_cons (hG _) s1 (evF_of (ea1 w) e) (getU2 rfl) (by rw [List.length_map]; omega)).trans ?_
      rw [setU2 rfl]
      have e2 : zs acc ++ [D.int x] = zs (acc ++ [x]) := (List.map_append (f := D.int) (l₁ := acc) (l₂ := [x])).symm
      rw [e2, ih, List.append_assoc, List.singleton_append]
      have : b + 1 + (items.length : Int) = b + ((items.length + 1 : Nat) : Int) := by omega
      rw [this]; rfl
theorem ints_th {S : Store} {q : Nat → Prop} {ns : List Int} (h : Bd (2 ^ 140) ns) (k : Nat) : ∀ d ∈ zs ns, Th S q k d := by
  intro d hd
  obtain ⟨x, hx, rfl⟩ := List.mem_map.mp hd
  have := h x hx
  cases k <;> exact this
theorem row_th {S : Store} {q : Nat → Prop} {ns : List Int} (h : Bd (2 ^ 140) ns) (hl : ns.length ≤ 7) (k : Nat) : Th S q (k + 1) (.tup (zs ns)) := ⟨by rw [List.length_map]; exact hl, ints_th h k⟩
theorem run_body {T : Store} {ns : List Int} (hT : T[0]? = some (Cell.lst (zs ns)) ∨ T[0]? = some (Cell.ro (zs ns))) (k : Nat) (u1 u2 u4 u5 u6 u7 u8 : Option D) : ∃ v4 v5 v7 v8 U,
    lbAll [some (.loc 0), u1, u2, some (.int (k : Nat)), u4, u5, u6, u7, u8] T = some (.nx [some (.loc 0), u1, u2, some (.int (k : Nat)), v4, v5, u6, v7, v8] (T ++ U)) := by
  obtain ⟨a, c, e0⟩ := spec_feed k hT
  obtain ⟨r, c1, e1, r0, r1⟩ := spec_take (S := T ++ [C3 a 0 c]) (n := T.length) (m := 6) get_last (by decide) (by decide) (by decide) (by decide)
  rw [set_last] at e1
  obtain ⟨kr, rfl⟩ := Int.eq_ofNat_of_zero_le r0
  obtain ⟨cs, c2, lc, bc, run⟩ := run_nums (T := T) (G := fun _ => True) (fun _ => trivial) (a := a) (σ := [some (.loc 0), u1, u2, some (.int (k : Nat)), some (.loc T.length), u5, none, u7, u8]) (fun d => ⟨_, rfl, rfl⟩) (rangeD 0 kr) [] (0 + 1) c1 (by decide) (by rw [rangeD_len]; omega) (by rw [rangeD_len]; simp; omega)
  rw [rangeD_len] at lc run
  rw [List.nil_append] at run
  have lcs : cs.length ≤ 5 := by omega
  have q0 : lb0 [some (.loc 0), u1, u2, some (.int (k : Nat)), u4, u5, u6, u7, u8] T = some (.nx [some (.loc 0), u1, u2, some (.int (k : Nat)), some (.loc T.length), u5, u6, u7, u8] (T ++ [C3 a 0 c])) := sSet_of (evF_of (ea2 rfl rfl) e0)
  generalize hb1 : (0 + 1 + (kr : Int) : Int) = b1 at *
  have hb1' : 0 ≤ b1 ∧ b1 ≤ 10 := by omega
  have q1 : lb1 [some (.loc 0), u1, u2, some (.int (k : Nat)), some (.loc T.length), u5, u6, u7, u8] (T ++ [C3 a 0 c]) = some (.nx [some (.loc 0), u1, u2, some (.int (k : Nat)), some (.loc T.length), some (.tup (zs cs)), u6, u7, u8] (T ++ C3 a b1 c2 :: [.lst (zs cs)])) := by
    have it : evRng (eaCons (evF f_law_take (eaCons (evVar 4) (eaCons (evC (.int 6)) (eaNil)))) (eaNil)) [some (.loc 0), u1, u2, some (.int (k : Nat)), some (.loc T.length), u5, u6, u7, u8] (T ++ [C3 a 0 c]) = some (rangeD 0 kr, T ++ [C3 a (0 + 1) c1], fun _ => True) := by
      rw [evRng_one (ea1 (evF_of (ea2 rfl rfl) e1)) (small_nat (by omega)), Int.toNat_natCast]
    refine sSet_of (evF_of (ea1 (evLC_of (S' := T ++ C3 a b1 c2 :: [.lst (zs cs)]) it ?_)) ?_)
    · rw [List.append_assoc, List.length_append]
      exact run
    · show (itemsD (.loc (T ++ [C3 a (0 + 1) c1]).length) (T ++ C3 a b1 c2 :: [.lst (zs cs)])).map _ = _
      have hl : (T ++ [C3 a (0 + 1) c1]).length = T.length + 1 := by simp
      rw [hl, itemsD_of (.inl (getU2 rfl))]; rfl
  obtain ⟨x, c3, e3, hx⟩ := spec_number (S := T ++ C3 a b1 c2 :: [.lst (zs cs)]) (n := T.length) get_last (by omega) (by omega)
  rw [set_last] at e3
  obtain ⟨y, c4, e4, hy⟩ := spec_number (S := T ++ C3 a (b1 + 1) c3 :: [.lst (zs cs)]) (n := T.length) get_last (by omega) (by omega)
  rw [set_last] at e4
  have q2 : lb2 [some (.loc 0), u1, u2, some (.int (k : Nat)), some (.loc T.length), some (.tup (zs cs)), u6, u7, u8] (T ++ C3 a b1 c2 :: [.lst (zs cs)]) = some (.nx [some (.loc 0), u1, u2, some (.int (k : Nat)), some (.loc T.length), some (.tup (zs cs)), u6, some (.tup (zs [x, y])), u8] (T ++ C3 a (b1 + 1 + 1) c4 :: [.lst (zs cs)])) :=
    sSet_of (evTup_of (ea2 (evF_of (ea1 rfl) e3) (evF_of (ea1 rfl) e4)) (by show 2 ≤ 1000; decide))
  have bxy : Bd (2 ^ 140) [x, y] := fun m hm => by
    simp only [List.mem_cons, List.not_mem_nil, or_false] at hm
    rcases hm with rfl | rfl
    · exact hx
    · exact hy
  obtain ⟨d1, b5, c5, U1, e5, g5, g5', th5, ln5⟩ := spec_bent (S := T ++ C3 a (b1 + 1 + 1) c4 :: [.lst (zs cs)]) (n := T.length) (row := zs cs) get_last (by omega) (by omega) (by rw [List.length_map]; omega)
  rw [set_last] at e5 th5
  generalize hV1 : T ++ C3 a b5 c5 :: [Cell.lst (zs cs)] ++ U1 = V1 at *
  have gV1 : V1[T.length]? = some (C3 a b5 c5) := by rw [← hV1, List.append_assoc]; exact get_last
  obtain ⟨d2, b6, c6, U2, e6, g6, g6', th6, ln6⟩ := spec_bent (S := V1) (n := T.length) (row := zs [x, y]) gV1 (by omega) (by omega) (by show 2 ≤ 6; decide)
  generalize hV2 : V1.set T.length (C3 a b6 c6) ++ U2 = V2 at *
  have hl1 : T.length < V1.length := (List.getElem?_eq_some_iff.mp gV1).1
  have hl2 : V1.length ≤ V2.length := by rw [← hV2, List.length_append, List.length_set]; omega
  have gV2 : V2[T.length]? = some (C3 a b6 c6) := by rw [← hV2]; exact getW (get_set gV1)
  have q3 : lb3 [some (.loc 0), u1, u2, some (.int (k : Nat)), some (.loc T.length), some (.tup (zs cs)), u6, some (.tup (zs [x, y])), u8] (T ++ C3 a (b1 + 1 + 1) c4 :: [.lst (zs cs)]) = some (.nx [some (.loc 0), u1, u2, some (.int (k : Nat)), some (.loc T.length), some (.tup (zs cs)), u6, some (.tup (zs [x, y])), some (.loc V2.length)] (V2 ++ [.lst [.tup (zs cs), .tup (zs [x, y]), d1, d2]])) :=
    sSet_of (evLst_of (ea4 rfl rfl (evF_of (ea2 rfl rfl) e5) (evF_of (ea2 rfl rfl) e6)) (by show 4 ≤ 1000; decide))
  -- what is a thing behind that
  have hq : ∀ z, z = T.length → z < (T ++ C3 a (b1 + 1 + 1) c4 :: [Cell.lst (zs cs)]).length := fun z hz => by rw [hz]; simp
  have t1 : Th V1 (· = T.length) 3 d1 := th5 (· = T.length) 1 hq rfl (Nat.le_refl _) (ints_th bc 1)
  have t2 : Th V2 (· = T.length) 3 d2 := th6 (· = T.length) 1 (fun z hz => by rw [hz]; exact hl1) rfl (Nat.le_refl _) (ints_th bxy 1)
  have t1' : Th V2 (· = T.length) 3 d1 := by rw [← hV2]; exact th_set rfl t1
  have out : ∀ {d : D} {j : Nat}, Th V2 (· = T.length) j d → Th V2 (fun z => z = T.length ∨ z = V2.length) j d := fun {d j} h => th_more (fun z hz => by rcases hz with hz | hz; exact .inl hz; exact .inr (by omega)) h
  have s1 := out t1'
  have s2 := out t2
  have hi : oIx (.loc V2.length) (.int 3) (V2 ++ [.lst [.tup (zs cs), .tup (zs [x, y]), d1, d2]]) = some (d2, V2 ++ [.lst [.tup (zs cs), .tup (zs [x, y]), d1, d2]]) := (oIx_loc (.inl get_last)).trans rfl
  obtain ⟨kd, hk⟩ := (t2.mono (S' := V2 ++ [.lst [.tup (zs cs), .tup (zs [x, y]), d1, d2]]) fun m c _ e => getW e).kind
  have ti : evTru (ev1 (oIsi .tup) (ev2 oIx (evVar 8) (evC (.int 3)))) [some (.loc 0), u1, u2, some (.int (k : Nat)), some (.loc T.length), some (.tup (zs cs)), u6, some (.tup (zs [x, y])), some (.loc V2.length)] (V2 ++ [.lst [.tup (zs cs), .tup (zs [x, y]), d1, d2]]) = some (isK kd .tup, V2 ++ [.lst [.tup (zs cs), .tup (zs [x, y]), d1, d2]]) := by
    refine evTru_of (d := .bl (isK kd .tup)) ?_ rfl
    unfold ev1
    rw [ev2_of rfl rfl hi]
    show (kindD d2 _).map _ = _
    rw [hk]; rfl
  have q45 : ∃ W, sSeq lb4 lb5 [some (.loc 0), u1, u2, some (.int (k : Nat)), some (.loc T.length), some (.tup (zs cs)), u6, some (.tup (zs [x, y])), some (.loc V2.length)] (V2 ++ [.lst [.tup (zs cs), .tup (zs [x, y]), d1, d2]]) = some (.nx [some (.loc 0), u1, u2, some (.int (k : Nat)), some (.loc T.length), some (.tup (zs cs)), u6, some (.tup (zs [x, y])), some (.loc V2.length)] W) ∧ (∃ U', W = T ++ U') := by
    have pref : ∀ {b' c' : Int} {U' : Store}, ∃ U'', (V2.set T.length (C3 a b' c') ++ U') = T ++ U'' := fun {b' c' U'} => by
      refine ⟨C3 a b' c' :: [Cell.lst (zs cs)] ++ U1 ++ U2 ++ U', ?_⟩
      rw [← hV2, ← hV1, setW (by rw [List.length_set, List.length_append]; simp; omega), List.set_set, List.append_assoc, List.append_assoc, show [C3 a b5 c5, Cell.lst (zs cs)] ++ U1 = C3 a b5 c5 :: ([Cell.lst (zs cs)] ++ U1) from rfl, set_last]
      simp
    by_cases ht : ∃ ds, d2 = .tup ds
    · obtain ⟨ds2, rfl⟩ := ht
      cases hk
      have gV3 : (V2 ++ [Cell.lst [.tup (zs cs), .tup (zs [x, y]), d1, .tup ds2]])[T.length]? = some (C3 a b6 c6) := getW gV2
      have l2 := ln6 ds2 rfl
      obtain ⟨d3, b7, c7, U3, e7, g7, g7', th7, ln7⟩ := spec_bent (S := V2 ++ [.lst [.tup (zs cs), .tup (zs [x, y]), d1, .tup ds2]]) (n := T.length) (row := ds2) gV3 (by omega) (by omega) (by have : (zs [x, y]).length = 2 := rfl; omega)
      rw [setW (by omega)] at e7 th7
      have m3 : ∀ {d : D} {j : Nat}, Th V2 (fun z => z = T.length ∨ z = V2.length) j d → Th (V2 ++ [.lst [.tup (zs cs), .tup (zs [x, y]), d1, .tup ds2]]) (fun z => z = T.length ∨ z = V2.length) j d := fun h => h.mono fun m c _ e => getW e
      have s2' := m3 s2
      have t3 := th7 (fun z => z = T.length ∨ z = V2.length) 2 (fun z hz => by rw [List.length_append, List.length_singleton]; rcases hz with rfl | rfl <;> omega) (.inl rfl) (by decide) s2'.2
      have hlen : (V2.set T.length (C3 a b7 c7)).length = V2.length := List.length_set ..
      have ap : fAppend (.loc V2.length) [d3] (V2.set T.length (C3 a b7 c7) ++ [.lst [.tup (zs cs), .tup (zs [x, y]), d1, .tup ds2]] ++ U3) = some (.non, V2.set T.length (C3 a b7 c7) ++ ([.lst [.tup (zs cs), .tup (zs [x, y]), d1, .tup ds2, d3]] ++ U3)) := by
        have g : (V2.set T.length (C3 a b7 c7) ++ [Cell.lst [.tup (zs cs), .tup (zs [x, y]), d1, .tup ds2]] ++ U3)[V2.length]? = some (Cell.lst [.tup (zs cs), .tup (zs [x, y]), d1, .tup ds2]) := by
          rw [List.append_assoc, ← hlen]; exact getK 0
        show (match (V2.set T.length (C3 a b7 c7) ++ [Cell.lst [.tup (zs cs), .tup (zs [x, y]), d1, .tup ds2]] ++ U3)[V2.length]? with
          | some (Cell.lst xs) => if xs.length < 100000 then some (D.non, (V2.set T.length (C3 a b7 c7) ++ [Cell.lst [.tup (zs cs), .tup (zs [x, y]), d1, .tup ds2]] ++ U3).set V2.length (Cell.lst (xs ++ [d3]))) else none
          | _ => none) = _
        rw [g]
        dsimp only
        rw [if_pos (by show 4 < 100000; decide), List.append_assoc]
        have := setK (S := V2.set T.length (C3 a b7 c7)) (U := [Cell.lst [.tup (zs cs), .tup (zs [x, y]), d1, .tup ds2]] ++ U3) 0 (.lst ([.tup (zs cs), .tup (zs [x, y]), d1, .tup ds2] ++ [d3]))
        rw [hlen] at this
        exact congrArg (fun W => some (D.non, W)) this
      have q4 : lb4 [some (.loc 0), u1, u2, some (.int (k : Nat)), some (.loc T.length), some (.tup (zs cs)), u6, some (.tup (zs [x, y])), some (.loc V2.length)] (V2 ++ [.lst [.tup (zs cs), .tup (zs [x, y]), d1, .tup ds2]]) = some (.nx [some (.loc 0), u1, u2, some (.int (k : Nat)), some (.loc T.length), some (.tup (zs cs)), u6, some (.tup (zs [x, y])), some (.loc V2.length)] (V2.set T.length (C3 a b7 c7) ++ ([.lst [.tup (zs cs), .tup (zs [x, y]), d1, .tup ds2, d3]] ++ U3))) :=
        (sIf_t ti).trans (sExpr_of (evM_of rfl (ea1 (evF_of (ea2 rfl (ev2_of rfl rfl hi)) e7)) ap))
      have fm : ∀ {d : D} {j : Nat}, Th V2 (fun z => z = T.length ∨ z = V2.length) j d → Th (V2.set T.length (C3 a b7 c7) ++ ([.lst [.tup (zs cs), .tup (zs [x, y]), d1, .tup ds2, d3]] ++ U3)) (fun z => z = T.length ∨ z = V2.length) j d := fun h => th_set (.inl rfl) h
      have f3 : Th (V2.set T.length (C3 a b7 c7) ++ ([.lst [.tup (zs cs), .tup (zs [x, y]), d1, .tup ds2, d3]] ++ U3)) (fun z => z = T.length ∨ z = V2.length) 4 d3 := by
        refine t3.mono fun m c hm e => ?_
        rw [List.append_assoc] at e
        have hm2 : m ≠ V2.length := fun z => hm (.inr z)
        by_cases hml : m < V2.length
        · rw [List.getElem?_append_left (by rw [hlen]; exact hml)] at e ⊢; exact e
        · obtain ⟨i, rfl⟩ : ∃ i, m = (V2.set T.length (C3 a b7 c7)).length + (i + 1) := ⟨m - V2.length - 1, by rw [hlen]; omega⟩
          rw [getK] at e ⊢
          exact e
      have ra := right_all (T := V2.set T.length (C3 a b7 c7) ++ ([.lst [.tup (zs cs), .tup (zs [x, y]), d1, .tup ds2, d3]] ++ U3)) (q := fun z => z = T.length ∨ z = V2.length) (σ := [some (.loc 0), u1, u2, some (.int (k : Nat)), some (.loc T.length), some (.tup (zs cs)), u6, some (.tup (zs [x, y])), some (.loc V2.length)]) (v := 8) (n := V2.length) (xs := [.tup (zs cs), .tup (zs [x, y]), d1, .tup ds2, d3]) rfl (by rw [← hlen]; exact getK 0) (by show 5 ≤ 1000; decide) (fun d hd => by
          simp only [List.mem_cons, List.not_mem_nil, or_false] at hd
          rcases hd with rfl | rfl | rfl | rfl | rfl
          · exact row_th bc (by omega) 3
          · exact row_th bxy (by show 2 ≤ 7; decide) 3
          · exact fm s1.up
          · exact fm s2.up
          · exact f3) (fun d => ⟨_, rfl, by simp [wipeD]⟩)
      exact ⟨_, (sSeq_nx q4).trans ((sIf_f ra).trans rfl), pref⟩
    · have hkf := not_tup hk (fun ds z => ht ⟨ds, z⟩)
      rw [hkf] at ti
      have mv : ∀ {d : D} {j : Nat}, Th V2 (· = T.length) j d → Th (V2 ++ [.lst [.tup (zs cs), .tup (zs [x, y]), d1, d2]]) (· = T.length) j d := fun h => h.mono fun m c _ e => getW e
      have ra := right_all (T := V2 ++ [.lst [.tup (zs cs), .tup (zs [x, y]), d1, d2]]) (q := (· = T.length)) (σ := [some (.loc 0), u1, u2, some (.int (k : Nat)), some (.loc T.length), some (.tup (zs cs)), u6, some (.tup (zs [x, y])), some (.loc V2.length)]) (v := 8) (n := V2.length) (xs := [.tup (zs cs), .tup (zs [x, y]), d1, d2]) rfl get_last (by show 4 ≤ 1000; decide) (fun d hd => by
          simp only [List.mem_cons, List.not_mem_nil, or_false] at hd
          rcases hd with rfl | rfl | rfl | rfl
          · exact row_th bc (by omega) 3
          · exact row_th bxy (by show 2 ≤ 7; decide) 3
          · exact mv t1'.up
          · exact mv t2.up) (fun d => ⟨_, rfl, by simp [wipeD]⟩)
      refine ⟨_, (sSeq_nx ((sIf_f ti).trans rfl)).trans ((sIf_f ra).trans rfl), ?_⟩
      have hS : V2.set T.length (C3 a b6 c6) = V2 := by
        obtain ⟨hl, he⟩ := List.getElem?_eq_some_iff.mp gV2
        rw [← he]; exact List.set_getElem_self hl
      have := pref (b' := b6) (c' := c6) (U' := [.lst [.tup (zs cs), .tup (zs [x, y]), d1, d2]])
      rw [hS] at this
      exact this
  obtain ⟨W, q45, U', hW⟩ := q45
  subst hW
  exact ⟨_, _, _, _, U', (sSeq_nx q0).trans ((sSeq_nx q1).trans ((sSeq_nx q2).trans ((sSeq_nx q3).trans q45)))⟩
abbrev listed : List D := [.non, .bl true, .int 0, .int 1, .str "", .str "1", .tup [], .loc 1, .tup (zs [0]), .tup (zs [0, 1]), .tup (zs [1, 0]), .tup (zs [0, 0]), .tup (zs [2, 4]), .tup (zs [-3, 6]), .tup (zs [1, -1]), .tup (zs [1, 2, 3])]
theorem listed_th {S : Store} {q : Nat → Prop} (h1 : S[1]? = some (.lst [])) (hq : ¬ q 1) : ∀ d ∈ listed, Th S q 4 d := by
  intro d hd
  have sm : ∀ {i : Int}, i.natAbs < 2 ^ 140 → Th S q 4 (.int i) := fun h => h
  simp only [List.mem_cons, List.not_mem_nil, or_false] at hd
  rcases hd with rfl | rfl | rfl | rfl | rfl | rfl | rfl | rfl | rfl | rfl | rfl | rfl | rfl | rfl | rfl | rfl
  · trivial
  · trivial
  · exact sm (by decide)
  · exact sm (by decide)
  · exact .inl rfl
  · exact .inr rfl
  · exact ⟨by decide, fun d h => nomatch h⟩
  · exact ⟨hq, [], h1, by decide, fun d h => nomatch h⟩
  all_goals exact row_th (by unfold Bd; decide) (by decide) 3
theorem run_law {ns : List Int} {G : Store → Prop} (hG : ∀ S, G S) {u1 : Option D} : ∀ (ks : List Nat) (U : Store) (u2 u3 u4 u5 u6 u7 u8 : Option D), ∃ σ U',
    forL G (.nm 3) lbAll (ks.map fun (i : Nat) => D.int ((i : Nat) : Int)) [some (.loc 0), u1, u2, u3, u4, u5, u6, u7, u8] ([.ro (zs ns)] ++ U) = some (.nx σ ([.ro (zs ns)] ++ U'))
  | [], U, u2, u3, u4, u5, u6, u7, u8 => ⟨_, U, forL_nil (hG _)⟩
  | k :: ks, U, u2, u3, u4, u5, u6, u7, u8 => by
    obtain ⟨v4, v5, v7, v8, W, e⟩ := run_body (T := [.ro (zs ns)] ++ U) (ns := ns) (.inr rfl) k u1 u2 u4 u5 u6 u7 u8
    rw [List.append_assoc] at e
    obtain ⟨σ, U', ih⟩ := run_law (ns := ns) hG (u1 := u1) ks (U ++ W) u2 (some (.int (k : Nat))) v4 v5 u6 v7 v8
    exact ⟨σ, U', (forL_cons (hG _) (show setD (.nm 3) (.int (k : Nat)) [some (.loc 0), u1, u2, u3, u4, u5, u6, u7, u8] = some [some (.loc 0), u1, u2, some (.int (k : Nat)), u4, u5, u6, u7, u8] from rfl) e).trans ih⟩
theorem rangeD_zero (n : Nat) : rangeD 0 n = (List.range n).map fun (i : Nat) => D.int ((i : Nat) : Int) := by
  unfold rangeD
  refine List.map_congr_left fun i _ => ?_
  rw [Int.zero_add]
noncomputable def f_law : Fn := fLaw
theorem law_some {ds S r} (e : fLaw ds S = some r) : ∃ ns : List Int, ds = [.loc 0] ∧ S = [.ro (zs ns)] ∧ ns.length ≤ 63 ∧ r = (.bl true, S) := by
  unfold fLaw at e
  split at e
  · rename_i h
    obtain ⟨ns, h1, h2, h3⟩ := h
    exact ⟨ns, h1, h2, h3, (Option.some.inj e).symm⟩
  · cases e
theorem ar_law : ∀ ds S r, f_law ds S = some r → ds.length = 1 := fun ds S r e => by
  obtain ⟨ns, rfl, _⟩ := law_some e
  rfl
theorem sem_law : ∀ ds S d S', f_law ds S = some (d, S') → Sem m_law NL ds S d S' := fun ds S d S' e => by
  obtain ⟨ns, rfl, rfl, hl, e⟩ := law_some e
  cases e
  have q0 : sSet 1 (evLst (eaCons (evC .non) (eaCons (evC (.bl true)) (eaCons (evC (.int 0)) (eaCons (evC (.int 1)) (eaCons (evC (.str "")) (eaCons (evC (.str "1")) (eaCons (evTup (eaNil)) (eaCons (evLst (eaNil)) (eaCons (evTup (eaCons (evC (.int 0)) (eaNil))) (eaCons (evTup (eaCons (evC (.int 0)) (eaCons (evC (.int 1)) (eaNil)))) (eaCons (evTup (eaCons (evC (.int 1)) (eaCons (evC (.int 0)) (eaNil)))) (eaCons (evTup (eaCons (evC (.int 0)) (eaCons (evC (.int 0)) (eaNil)))) (eaCons (evTup (eaCons (evC (.int 2)) (eaCons (evC (.int 4)) (eaNil)))) (eaCons (evTup (eaCons (ev1 oNeg (evC (.int 3))) (eaCons (evC (.int 6)) (eaNil)))) (eaCons (evTup (eaCons (evC (.int 1)) (eaCons (ev1 oNeg (evC (.int 1))) (eaNil)))) (eaCons (evTup (eaCons (evC (.int 1)) (eaCons (evC (.int 2)) (eaCons (evC (.int 3)) (eaNil))))) (eaNil)))))))))))))))))) (startD NL [.loc 0]) [.ro (zs ns)] = some (.nx [some (.loc 0), some (.loc 2), none, none, none, none, none, none, none] ([.ro (zs ns)] ++ [.lst [], .lst listed])) := rfl
  have q1 := right_all (T := [.ro (zs ns)] ++ [.lst [], .lst listed]) (q := fun z => z = 0) (σ := [some (.loc 0), some (.loc 2), none, none, none, none, none, none, none]) (v := 1) (n := 2) (xs := listed) rfl rfl (by show 16 ≤ 1000; decide) (listed_th rfl (by decide)) (fun d => ⟨_, rfl, rfl⟩)
  have it : ∃ n, evRng (eaCons (ev2 oAdd (evC (.int 4)) (evF (fInt2 fun i j => if j < i then j else i) (eaCons (evC (.int 4)) (eaCons (evF fLen (eaCons (evVar 0) (eaNil))) (eaNil))))) (eaNil)) [some (.loc 0), some (.loc 2), none, none, none, none, none, none, none] ([.ro (zs ns)] ++ [.lst [], .lst listed]) = some (rangeD 0 n, [.ro (zs ns)] ++ [.lst [], .lst listed], fun _ => True) := by
    refine ⟨(4 + (if ((zs ns).length : Int) < 4 then ((zs ns).length : Int) else 4)).toNat, ?_⟩
    have hs : Small (4 + (if ((zs ns).length : Int) < 4 then ((zs ns).length : Int) else 4)) := by
      unfold Small; split <;> omega
    exact evRng_one rfl hs
  obtain ⟨n, it⟩ := it
  obtain ⟨σ, U', r⟩ := run_law (ns := ns) (G := fun _ => True) (fun _ => trivial) (u1 := some (.loc 2)) (List.range n) [.lst [], .lst listed] none none none none none none none
  rw [← rangeD_zero] at r
  refine Sem.dropA (U := U') ((sSeq_nx q0).trans ((sSeq_nx ((sIf_f q1).trans rfl)).trans ((sSeq_nx ((sFor_of it).trans r)).trans rfl))) rfl
end Pf
set_option maxHeartbeats 1000000
namespace Po
open PySem L2 Q2 Pf
open Pt (fPure pure_rt pure_app pure_sem pure_ar)
open Px (range_from)
/-! ### roots drawn -/
/-! ### sums of powers of roots -/
end Po
set_option maxHeartbeats 1000000
namespace Po
open PySem L2 Q2 Pf
open Pt (fPure pure_rt pure_app pure_sem pure_ar)
open Px (range_from)
/-! ### tables: lists of lists -/
theorem atI_nat {α : Type} (xs : List α) (k : Nat) : L2.atI xs (k : Int) = xs[k]? := by
  unfold L2.atI L2.ixN
  by_cases h : k < xs.length
  · rw [if_pos (by omega), if_pos (by omega), Int.toNat_natCast]; rfl
  · rw [if_pos (by omega), if_neg (by omega), List.getElem?_eq_none (by omega)]; rfl
/-- the first i rows of a table whose list is at b -/
def RowsAt (q : Nat → Prop) (T : Store) (b : Nat) (acc : List D) (i : Nat) (g : Nat → List Int) : Prop := acc.length = i ∧ ∀ j < i, ∃ m, m ≠ b ∧ q m ∧ acc[j]? = some (.loc m) ∧ T[m]? = some (.lst (zs (g j)))
theorem RowsAt.keep {q : Nat → Prop} {T T' : Store} {b : Nat} {acc : List D} {i : Nat} {g : Nat → List Int} (h : RowsAt q T b acc i g) (k : ∀ m c, m ≠ b → q m → T[m]? = some c → T'[m]? = some c) : RowsAt q T' b acc i g :=
  ⟨h.1, fun j hj => let ⟨m, h1, h2, h3, h4⟩ := h.2 j hj; ⟨m, h1, h2, h3, k m _ h1 h2 h4⟩⟩
/-- a table n by n, its places all so -/
def Tb (q : Nat → Prop) (S : Store) (d : D) (n : Nat) (f : Nat → Nat → Int) : Prop := ∃ l ds, d = .loc l ∧ q l ∧ S[l]? = some (.lst ds) ∧ RowsAt q S l ds n (fun i => (List.range n).map (f i))
theorem Tb.keep {q : Nat → Prop} {S S' : Store} {d : D} {n : Nat} {f : Nat → Nat → Int} (h : Tb q S d n f) (k : ∀ m c, q m → S[m]? = some c → S'[m]? = some c) : Tb q S' d n f := by
  obtain ⟨l, ds, e, h1, h2, h3⟩ := h
  exact ⟨l, ds, e, h1, k _ _ h1 h2, h3.keep fun m c _ a b => k m c a b⟩
theorem Tb.imp {q q' : Nat → Prop} {S : Store} {d : D} {n : Nat} {f : Nat → Nat → Int} (h : Tb q S d n f) (k : ∀ m, q m → q' m) : Tb q' S d n f := by
  obtain ⟨l, ds, e, h1, h2, h3, h4⟩ := h
  exact ⟨l, ds, e, k _ h1, h2, h3, fun j hj => let ⟨m, a, b, c⟩ := h4 j hj; ⟨m, a, k m b, c⟩⟩
theorem Tb.app {q : Nat → Prop} {S U : Store} {d : D} {n : Nat} {f : Nat → Nat → Int} (h : Tb q S d n f) : Tb q (S ++ U) d n f := h.keep fun _ _ _ e => getW e
theorem Tb.len {q : Nat → Prop} {S : Store} {d : D} {n : Nat} {f : Nat → Nat → Int} (h : Tb q S d n f) : oLen d S = some (.int (n : Int), S) := by
  obtain ⟨l, ds, rfl, h1, h2, h3, h4⟩ := h
  rw [oLen_loc (.inl h2), h3]
theorem Tb.get {q : Nat → Prop} {S : Store} {d : D} {n : Nat} {f : Nat → Nat → Int} (h : Tb q S d n f) {i : Nat} (hi : i < n) : ∃ m, oIx d (.int (i : Int)) S = some (.loc m, S) ∧ ∀ j < n, oIx (.loc m) (.int (j : Int)) S = some (.int (f i j), S) := by
  obtain ⟨l, ds, rfl, h1, h2, h3, h4⟩ := h
  obtain ⟨m, a, b, c, e⟩ := h4 i hi
  refine ⟨m, by rw [oIx_loc (.inl h2), atI_nat, c]; rfl, fun j hj => ?_⟩
  rw [oIx_loc (.inl e), atI_nat, List.getElem?_map, List.getElem?_map, List.getElem?_range hj]; rfl
end Po
set_option maxHeartbeats 1000000
namespace Po
open PySem L2 Q2 Pf
open Pt (fPure pure_rt pure_app pure_sem pure_ar)
open Px (range_from)
/-! ### the table of a poly, and the sums of its powers' places -/
end Po
set_option maxHeartbeats 1000000
namespace Pk
open PySem L2 Q2
open Pf hiding f_law_take m_law_take spec_take
open Ss (sortP sortP_perm sortP_up)
open Pt (fPure pure_rt pure_app pure_sem pure_ar)
open Px (tp pw range_from)
open Po (Fe Fe.app Fe.set Fe.up Fe.lt fRun run_ar run_sem run_of)
/-! ### a web drawn -/
/-- a tie of a web of n places -/
def Ti (n : Nat) (t : Int × Int) : Prop := 0 ≤ t.1 ∧ t.1 < t.2 ∧ t.2 < (n : Int)
def tri : Nat → Nat
  | 0 => 0
  | f + 1 => tri f + f
theorem tri9 : ∀ n ≤ 9, tri n ≤ 36 := by decide
/-- a web: unlike ties, rising -/
structure Wb (n : Nat) (ts : List (Int × Int)) : Prop where
  tie : ∀ t ∈ ts, Ti n t
  up : Ss.Up ts
end Pk
set_option maxHeartbeats 1000000
namespace Pm
open PySem L2 Q2 Pf
open Pw (allL_of)
open Ss (ltP sortP sortP_perm sortP_up Up ltP_trans)
open Pt (fPure pure_rt pure_app pure_sem pure_ar tpP dat_ties)
open Px (tp range_from)
/-! ### ties in order, and once -/
theorem eqv_ties : ∀ ps qs : List (Int × Int), PyData.eqvAll (ps.map tpP) (qs.map tpP) = decide (ps = qs)
  | [], [] => by simp [PyData.eqvAll]
  | [], _ :: _ => by simp [PyData.eqvAll]
  | _ :: _, [] => by simp [PyData.eqvAll]
  | (a, b) :: ps, (c, d) :: qs => by
    have ih := eqv_ties ps qs
    simp only [List.map_cons, PyData.eqvAll, PyData.eqv, ih]
    by_cases h1 : a = c
    · subst h1
      by_cases h2 : b = d
      · subst h2
        simp
      · simp [h2]
    · simp [h1]
theorem ix0 {a b : D} {S : Store} : oIx (.tup [a, b]) (.int 0) S = some (a, S) := rfl
end Pm
set_option maxHeartbeats 1000000
namespace Pm
open PySem L2 Q2
open Pf hiding NB m_law_bent
open Pw hiding Out Out.pre run_ways out_odd run_bent P_bent fr_law_bent spec_bent f_law_bent m_law f_law NL
/-! ### how wide a thing is -/
mutual
def wd : D → Nat
  | .tup ds => max ds.length (wdL ds)
  | _ => 0
def wdL : List D → Nat
  | [] => 0
  | d :: ds => max (wd d) (wdL ds)
end
/-! ### a thing is bent, and stays about as wide -/
def Out (fl : Nat) (S : Store) (d d' : D) (S' : Store) : Prop := Stp fl S S' ∧ (∀ (q : Nat → Prop) p B B', q fl → (∀ i, q i → i < S.length) → Dat S q B d p → B + 1 ≤ B' → 10 ^ 39 ≤ B' → ∃ p', Dat S' q B' d' p' ∧ p'.depth ≤ p.depth + 2 ∧ p'.bulk ≤ 2 * p.bulk + 10) ∧ wd d' ≤ max (wd d + 1) 8
theorem Out.pre {fl : Nat} {S S1 S' : Store} {d d' : D} (st : Stp fl S S1) (h : Out fl S1 d d' S') : Out fl S d d' S' := ⟨st.trans h.1, fun q p B B' hf hq hd h1 h2 => h.2.1 q p B B' hf (fun i z => Nat.lt_of_lt_of_le (hq i z) st.len) (hd.mono (st.ok hf)) h1 h2, h.2.2⟩
end Pm
set_option maxHeartbeats 1000000
namespace Pm
open PySem L2 Q2
open Pf hiding NB m_law_bent
open Pw hiding Out Out.pre run_ways out_odd run_bent P_bent fr_law_bent spec_bent f_law_bent m_law f_law NL
open Px (tp pw range_from)
open Po (fRun run_ar run_sem run_of expr_append)
open Pk (Ti tri tri9)
/-! ### a web drawn, tie by tie -/
theorem from_cons (i f : Nat) : from_ i (f + 1) = D.int ((i : Nat) : Int) :: from_ (i + 1) f := by
  show (List.range' i (f + 1)).map _ = _
  rw [List.range'_succ]; rfl
noncomputable def m_law_web : Sv := sSeq (sSet 2 (evF f_law_draw (eaCons (evVar 0) (eaCons (ev2 oAdd (evVar 1) (evC (.int 1))) (eaNil))))) (sSeq (sSet 3 (evF f_law_draw (eaCons (evVar 0) (eaCons (evC (.int 6)) (eaNil))))) (sSeq (sSet 4 (evLst (eaNil))) (sSeq (sFor (evRng (eaCons (evVar 2) (eaNil))) (.nm 5) (sFor (evRng (eaCons (ev2 oAdd (evVar 5) (evC (.int 1))) (eaCons (evVar 2) (eaNil)))) (.nm 6) (sIf (evB (ev2 oLt (evF f_law_draw (eaCons (evVar 0) (eaCons (evC (.int 5)) (eaNil)))) (evVar 3))) (sExpr (evM fAppend (evVar 4) (eaCons (evTup (eaCons (evVar 5) (eaCons (evVar 6) (eaNil)))) (eaNil)))) (sSkip)))) (sRet (evTup (eaCons (evVar 2) (eaCons (evF fTuple (eaCons (evVar 4) (eaNil))) (eaNil))))))))
abbrev NW : List Str := ["_law_feed_here", "_law_most", "_law_many", "_law_often", "_law_ties", "_law_i", "_law_j"]
noncomputable def f_law_web : Fn := fRun m_law_web NW 2
theorem ar_law_web : ∀ ds S r, f_law_web ds S = some r → ds.length = 2 := run_ar
theorem sem_law_web : ∀ ds S d S', f_law_web ds S = some (d, S') → Sem m_law_web NW ds S d S' := run_sem
noncomputable abbrev inStep : Sv := sIf (evB (ev2 oLt (evF f_law_draw (eaCons (evVar 0) (eaCons (evC (.int 5)) (eaNil)))) (evVar 3))) (sExpr (evM fAppend (evVar 4) (eaCons (evTup (eaCons (evVar 5) (eaCons (evVar 6) (eaNil)))) (eaNil)))) (sSkip)
noncomputable abbrev outStep : Sv := sFor (evRng (eaCons (ev2 oAdd (evVar 5) (evC (.int 1))) (eaCons (evVar 2) (eaNil)))) (.nm 6) (sIf (evB (ev2 oLt (evF f_law_draw (eaCons (evVar 0) (eaCons (evC (.int 5)) (eaNil)))) (evVar 3))) (sExpr (evM fAppend (evVar 4) (eaCons (evTup (eaCons (evVar 5) (eaCons (evVar 6) (eaNil)))) (eaNil)))) (sSkip))
end Pm
set_option maxHeartbeats 1000000
namespace Pm
open PySem L2 Q2
open Pf hiding NB m_law_bent
open Pw hiding Out Out.pre run_ways out_odd run_bent P_bent fr_law_bent spec_bent f_law_bent m_law f_law NL Gd Gd.mono LInv
open Px (tp pw range_from)
open Pk (Ti)
open Ss (ltP Up)
open Pt (tpP dat_ties)
/-! ### the things told -/
theorem ties_bulk : ∀ ts : List (Int × Int), PyData.depthAll (ts.map tpP) ≤ 1 ∧ PyData.bulkAll (ts.map tpP) = 3 * ts.length
  | [] => ⟨Nat.zero_le _, rfl⟩
  | t :: ts => by
    obtain ⟨h1, h2⟩ := ties_bulk ts
    simp only [List.map_cons, PyData.depthAll, PyData.bulkAll, PyData.depth, PyData.bulk, List.length_cons] at h1 h2 ⊢
    omega
/-- a web as a thing -/
def Wg (S : Store) (fl : Nat) (w : D) : Prop := Sml S (· = fl) (10 ^ 39) w 3 110 ∧ wd w ≤ 36
theorem Wg.mono {S S' : Store} {fl : Nat} {w : D} (st : Stp fl S S') (h : Wg S fl w) : Wg S' fl w := by
  obtain ⟨⟨p, h1, h2⟩, h3⟩ := h
  exact ⟨⟨p, h1.mono (st.ok (q := (· = fl)) rfl), h2⟩, h3⟩
/-- a thing that may be looked at -/
def Gd (S : Store) (fl : Nat) (d : D) : Prop := Sml S (· = fl) (10 ^ 39 + 2) d 7 500 ∧ wd d ≤ 60
theorem Gd.mono {S S' : Store} {fl : Nat} {d : D} (st : Stp fl S S') (h : Gd S fl d) : Gd S' fl d := by
  obtain ⟨⟨p, h1, h2⟩, h3⟩ := h
  exact ⟨⟨p, h1.mono (st.ok (q := (· = fl)) rfl), h2⟩, h3⟩
theorem Wg.gd {S : Store} {fl : Nat} {w : D} (h : Wg S fl w) : Gd S fl w := by
  obtain ⟨⟨p, h1, h2, h3⟩, h4⟩ := h
  exact ⟨⟨p, h1.up (by omega), by omega, by omega⟩, by omega⟩
section
variable {S : Store} {fl : Nat}
end
/-! ### the great web -/
end Pm
set_option maxHeartbeats 1000000
namespace Pm
open PySem L2 Q2
open Pf hiding NB m_law_bent f_law_odd f_law_feed
open Pw hiding Out Out.pre run_ways out_odd run_bent P_bent fr_law_bent spec_bent f_law_bent m_law f_law NL Gd Gd.mono LInv
open Px (tp pw range_from)
open Pk (Ti)
open Ss (ltP Up)
open Pt (tpP dat_ties)
structure TInv (S0 : Store) (fl Lw L : Nat) (ws things : List D) (S : Store) : Prop where
  st : Stp fl S0 S
  webs : S[Lw]? = some (.lst ws)
  all_ : S[L]? = some (.lst things)
  wg : ∀ w ∈ ws, Wg S fl w
  gd : ∀ d ∈ things, Gd S fl d
theorem TInv.get {S0 S : Store} {fl Lw L : Nat} {ws things : List D} (I : TInv S0 fl Lw L ws things S) : fl < S.length := I.st.fd.lt
/-! ### more things, bent and odd -/
/-! ### each is looked at -/
end Pm
set_option maxHeartbeats 1000000
namespace Pm
open PySem L2 Q2
open Pf hiding NB m_law_bent f_law_odd f_law_feed spec_feed
open Pw hiding Out Out.pre run_ways out_odd run_bent P_bent fr_law_bent spec_bent f_law_bent m_law f_law NL Gd Gd.mono LInv
open Px (tp pw range_from)
open Pk (Ti)
/-! ### the law of webs by kind -/
end Pm
set_option maxHeartbeats 1000000
namespace Rd
open PySem
/-! ### texts put together and taken apart -/
theorem cut_at {c : Nat} : ∀ {a b x y : List Nat}, c ∉ a → c ∉ b → a ++ c :: x = b ++ c :: y → a = b ∧ x = y
  | [], [], x, y, _, _, h => by injection h with _ h; exact ⟨rfl, h⟩
  | [], d :: b, x, y, _, hb, h => by
    injection h with h _
    exact absurd List.mem_cons_self (by rw [← h] at hb; exact hb)
  | d :: a, [], x, y, ha, _, h => by
    injection h with h _
    exact absurd List.mem_cons_self (by rw [h] at ha; exact ha)
  | d :: a, e :: b, x, y, ha, hb, h => by
    injection h with h1 h2
    obtain ⟨h3, h4⟩ := cut_at (fun z => ha (List.mem_cons_of_mem _ z)) (fun z => hb (List.mem_cons_of_mem _ z)) h2
    exact ⟨by rw [h1, h3], h4⟩
theorem join_two (s x y : Str) (r : List Str) : (Str.join s (x :: y :: r)).cps.toList = x.cps.toList ++ (s.cps.toList ++ (Str.join s (y :: r)).cps.toList) := by
  show (x ++ s ++ Str.join s (y :: r)).cps.toList = _
  rw [Str.cps_append, Str.cps_append, Array.toList_append, Array.toList_append, List.append_assoc]
theorem join_inj {c : Nat} : ∀ {ws ps : List Str}, ws ≠ [] → ps ≠ [] → (∀ w ∈ ws, c ∉ w.cps.toList) → (∀ p ∈ ps, c ∉ p.cps.toList) → Str.join ⟨#[c]⟩ ws = Str.join ⟨#[c]⟩ ps → ws = ps
  | [], _, h, _, _, _, _ => absurd rfl h
  | _ :: _, [], _, h, _, _, _ => absurd rfl h
  | [w], [p], _, _, _, _, h => by rw [show w = p from h]
  | [w], p :: q :: r, _, _, hw, _, h => by
    have h := congrArg (fun z : Str => z.cps.toList) h
    rw [join_two] at h
    refine absurd ?_ (hw w List.mem_cons_self)
    rw [show w.cps.toList = _ from h]
    exact List.mem_append_right _ List.mem_cons_self
  | w :: v :: r, [p], _, _, _, hp, h => by
    have h := congrArg (fun z : Str => z.cps.toList) h
    rw [join_two] at h
    refine absurd ?_ (hp p List.mem_cons_self)
    rw [show p.cps.toList = _ from h.symm]
    exact List.mem_append_right _ List.mem_cons_self
  | w :: v :: r, p :: q :: t, _, _, hw, hp, h => by
    have h0 := congrArg (fun z : Str => z.cps.toList) h
    rw [join_two, join_two] at h0
    obtain ⟨h1, h2⟩ := cut_at (c := c) (hw w List.mem_cons_self) (hp p List.mem_cons_self) h0
    have e1 : w = p := Str.ext' (Array.toList_inj.mp h1)
    have e2 : Str.join ⟨#[c]⟩ (v :: r) = Str.join ⟨#[c]⟩ (q :: t) := Str.ext' (Array.toList_inj.mp h2)
    rw [e1, join_inj (by intro z; cases z) (by intro z; cases z) (fun x hx => hw x (List.mem_cons_of_mem _ hx)) (fun x hx => hp x (List.mem_cons_of_mem _ hx)) e2]
theorem split_join {c : Nat} {ws : List Str} (h0 : ws ≠ []) (h : ∀ w ∈ ws, c ∉ w.cps.toList) : Txt.split (Str.join ⟨#[c]⟩ ws) ⟨#[c]⟩ = ws := by
  refine (join_inj h0 ?_ h (StrLaws.split_free _ c) ?_).symm
  · have := PyProof.Rows.split_pos (Str.join ⟨#[c]⟩ ws) ⟨#[c]⟩
    intro z
    rw [z] at this
    cases this
  · rw [StrLaws.join_split]
/-! ### numbers as texts -/
abbrev numS (n : Nat) : Str := Str.ofString (toString ((n : Nat) : Int))
def okN (n : Nat) : Bool := let l := (Nat.toDigits 10 n).map Char.toNat; !l.isEmpty && (decide (l.length ≤ 4) && ((l.all fun c => decide (48 ≤ c) && decide (c ≤ 57)) && (!decide (l.getD 0 0 = 48) || decide (l = [48]))))
theorem ok_all : ((List.range 10000).all okN) = true := by decide +kernel
theorem ok_num {n : Nat} (h : n < 10000) : (numS n).cps.toList ≠ [] ∧ (numS n).cps.toList.length ≤ 4 ∧ (∀ c ∈ (numS n).cps.toList, 48 ≤ c ∧ c ≤ 57) ∧ ((numS n).cps.toList.getD 0 0 = 48 → (numS n).cps.toList = [48]) := by
  have := List.all_eq_true.mp ok_all n (List.mem_range.mpr h)
  unfold okN at this
  rw [show (numS n).cps.toList = _ from PySem.W.KIN.signs_num n]
  simp only [Bool.and_eq_true, Bool.or_eq_true, Bool.not_eq_true', decide_eq_true_eq, decide_eq_false_iff_not, List.all_eq_true, List.isEmpty_eq_false_iff] at this
  obtain ⟨h1, h2, h3, h4⟩ := this
  exact ⟨h1, h2, h3, fun z => h4.resolve_left (fun y => y z)⟩
end Rd
set_option maxHeartbeats 1000000
namespace Rd
open PySem L2 Q2
open Pf hiding f_law_odd f_law_feed spec_feed
open Pw (allL_of evAnd_t evAnd_f)
open Pt (fPure pure_rt pure_app pure_sem pure_ar)
open Px (tp pw lcL_filt)
open Pk (Ti)
/-! ### numbers read -/
abbrev num (z : Int) : Str := Str.ofString (toString z)
theorem num_nat {z : Int} (h : 0 ≤ z) : num z = numS z.toNat := by
  show Str.ofString (toString z) = Str.ofString (toString ((z.toNat : Nat) : Int))
  rw [Int.toNat_of_nonneg h]
theorem num_ok {z : Int} (h0 : 0 ≤ z) (h : z < 10000) : (num z).cps.toList ≠ [] ∧ (num z).cps.toList.length ≤ 4 ∧ (∀ c ∈ (num z).cps.toList, 48 ≤ c ∧ c ≤ 57) ∧ ((num z).cps.toList.getD 0 0 = 48 → (num z).cps.toList = [48]) := by
  rw [num_nat h0]
  exact ok_num (by omega)
theorem num_len {z : Int} (h0 : 0 ≤ z) (h : z < 10000) : (num z).length ≤ 4 := by
  have := (num_ok h0 h).2.1
  rw [Array.length_toList] at this
  exact this
theorem t_zero : ("0" : Str) = ⟨#[48]⟩ := by decide +kernel
theorem t_dash : ("-" : Str) = ⟨#[45]⟩ := by decide +kernel
theorem t_gap : (" " : Str) = ⟨#[32]⟩ := by decide +kernel
theorem t_none : ("" : Str) = ⟨#[]⟩ := by decide +kernel
theorem figs : ("0123456789" : Str).cps.toList = [48, 49, 50, 51, 52, 53, 54, 55, 56, 57] := by decide +kernel
theorem num_apart {z : Int} (h0 : 0 ≤ z) (h : z < 10000) {c : Nat} (hc : c < 48) : c ∉ (num z).cps.toList := fun m => by
  have := (num_ok h0 h).2.2.1 c m
  omega
theorem oEq_str (a b : Str) (S : Store) : oEq (.str a) (.str b) S = some (.bl (decide (a = b)), S) := rfl
theorem oNe_str (a b : Str) (S : Store) : oNe (.str a) (.str b) S = some (.bl (!decide (a = b)), S) := rfl
noncomputable def m_read_number : Sv := sSeq (sIf (evOr (evB (ev2 oEq (evVar 0) (evC (.str "")))) (evOr (evB (ev2 oGt (evF fLen (eaCons (evVar 0) (eaNil))) (evVar 1))) (evNot (evTru (evAllG (evSigns (evVar 0)) (.nm 2) (evYes) (ev2 oInC (evVar 2) (evC (.str "0123456789"))) [2]))))) (sRet (evC .non)) (sSkip)) (sSeq (sIf (evAnd (evB (ev2 oEq (ev2 oIx (evVar 0) (evC (.int 0))) (evC (.str "0")))) (evB (ev2 oNe (evVar 0) (evC (.str "0"))))) (sRet (evC .non)) (sSkip)) (sRet (evF fIntT (eaCons (evVar 0) (eaNil)))))
abbrev NRN : List Str := ["word", "most", "sign"]
noncomputable def f_read_number : Fn := fPure m_read_number NRN 2
theorem ar_read_number : ∀ ds S r, f_read_number ds S = some r → ds.length = 2 := pure_ar
theorem sem_read_number : ∀ ds S d S', f_read_number ds S = some (d, S') → Sem m_read_number NRN ds S d S' := pure_sem
theorem spec_read_number {z : Int} {S : Store} (h0 : 0 ≤ z) (h : z < 10000) : f_read_number [.str (num z), .int 4] S = some (.int z, S) := by
  obtain ⟨a1, a2, a3, a4⟩ := num_ok h0 h
  obtain ⟨c0, rest, hl⟩ : ∃ c0 rest, (num z).cps.toList = c0 :: rest := by
    cases hz : (num z).cps.toList with
    | nil => exact absurd hz a1
    | cons c r => exact ⟨c, r, rfl⟩
  have len := num_len h0 h
  have σ : True := trivial
  have t1 : evB (ev2 oEq (evVar 0) (evC (.str ""))) [some (.str (num z)), some (.int 4), none] S = some (false, S) := by
    refine evB_of (ev2_of rfl rfl ?_)
    rw [oEq_str, decide_eq_false fun e => ?_]
    rw [e, t_none] at hl
    cases hl
  have fl : fLen [.str (num z)] S = some (.int ((num z).length : Int), S) := if_pos (Nat.le_trans len (by decide))
  have t2 : evB (ev2 oGt (evF fLen (eaCons (evVar 0) (eaNil))) (evVar 1)) [some (.str (num z)), some (.int 4), none] S = some (false, S) := by
    refine evB_of (ev2_of (evF_of (ea1 rfl) fl) rfl ?_)
    show some (D.bl (decide ((4 : Int) < ((num z).length : Int))), S) = _
    rw [decide_eq_false (by omega)]
  have al : evAllG (evSigns (evVar 0)) (.nm 2) (evYes) (ev2 oInC (evVar 2) (evC (.str "0123456789"))) [2] [some (.str (num z)), some (.int 4), none] S = some (.bl true, S) := by
    have := allL_of (S := S) (σ := [some (.str (num z)), some (.int 4), none]) (G := fun _ => True) (tg := .nm 2) (te := ev2 oInC (evVar 2) (evC (.str "0123456789"))) (fun _ => trivial) (fun _ => true) (signs (num z)) fun d hd => by
      obtain ⟨c, hc, rfl⟩ := List.mem_map.mp hd
      refine ⟨_, rfl, ?_⟩
      show some (D.bl (decide (c ∈ ("0123456789" : Str).cps.toList)), S) = _
      rw [figs, decide_eq_true]
      have := a3 c hc
      simp only [List.mem_cons, List.not_mem_nil, or_false]
      omega
    rw [List.all_eq_true.mpr fun _ _ => rfl] at this
    exact this
  have t3 : evNot (evTru (evAllG (evSigns (evVar 0)) (.nm 2) (evYes) (ev2 oInC (evVar 2) (evC (.str "0123456789"))) [2])) [some (.str (num z)), some (.int 4), none] S = some (false, S) := evNot_of (evTru_of al rfl)
  have ix : ev2 oIx (evVar 0) (evC (.int 0)) [some (.str (num z)), some (.int 4), none] S = some (.str ⟨#[c0]⟩, S) := by
    refine ev2_of rfl rfl ?_
    show (if (num z).length ≤ 1000000 then (L2.atI (num z).cps.toList 0).map fun c => (D.str ⟨#[c]⟩, S) else none) = _
    rw [if_pos (by omega), hl, show L2.atI (c0 :: rest) 0 = some c0 from L2.atI_nat (j := 0) rfl]; rfl
  have t4 : (evAnd (evB (ev2 oEq (ev2 oIx (evVar 0) (evC (.int 0))) (evC (.str "0")))) (evB (ev2 oNe (evVar 0) (evC (.str "0"))))) [some (.str (num z)), some (.int 4), none] S = some (false, S) := by
    have e1 : evB (ev2 oEq (ev2 oIx (evVar 0) (evC (.int 0))) (evC (.str "0"))) [some (.str (num z)), some (.int 4), none] S = some (decide ((⟨#[c0]⟩ : Str) = "0"), S) := evB_of (ev2_of ix rfl (oEq_str _ _ _))
    by_cases hc : (⟨#[c0]⟩ : Str) = "0"
    · rw [decide_eq_true hc] at e1
      refine (evAnd_t e1).trans (evB_of (ev2_of rfl rfl ?_))
      rw [t_zero] at hc
      injection hc with hc
      have hc : [c0] = [48] := congrArg Array.toList hc
      injection hc with hc
      have : num z = "0" := by
        rw [t_zero]
        exact one_sign (a4 (by rw [hl]; exact hc))
      rw [oNe_str, decide_eq_true this]; rfl
    · rw [decide_eq_false hc] at e1
      exact evAnd_f e1
  have nt : fIntT [.str (num z)] S = some (.int z, S) := by
    show (PySem.intText? (num z)).bind _ = _
    rw [PySem.W.KIN.num_reads h0 (by omega)]
    exact if_pos (by omega)
  exact pure_rt ((sSeq_nx ((sIf_f ((evOr_f t1).trans ((evOr_f t2).trans t3))).trans rfl)).trans ((sSeq_nx ((sIf_f t4).trans rfl)).trans (sRet_of (evF_of (ea1 rfl) nt)))) rfl
/-! ### ties read -/
abbrev tieS (t : Int × Int) : Str := num t.1 ++ "-" ++ num t.2
def Sml4 (t : Int × Int) : Prop := 0 ≤ t.1 ∧ t.1 < 10000 ∧ 0 ≤ t.2 ∧ t.2 < 10000
theorem tie_split {t : Int × Int} (h : Sml4 t) : Txt.split (tieS t) "-" = [num t.1, num t.2] := by
  obtain ⟨h1, h2, h3, h4⟩ := h
  have e : tieS t = Str.join ⟨#[45]⟩ [num t.1, num t.2] := by
    show num t.1 ++ ("-" : Str) ++ num t.2 = num t.1 ++ ⟨#[45]⟩ ++ num t.2
    rw [t_dash]
  rw [e, t_dash]
  refine split_join (by intro z; cases z) fun w hw => ?_
  simp only [List.mem_cons, List.not_mem_nil, or_false] at hw
  rcases hw with rfl | rfl
  · exact num_apart h1 h2 (by decide)
  · exact num_apart h3 h4 (by decide)
theorem tie_len {t : Int × Int} (h : Sml4 t) : (tieS t).length ≤ 9 := by
  obtain ⟨h1, h2, h3, h4⟩ := h
  have a := num_len h1 h2
  have b := num_len h3 h4
  have c : ("-" : Str).length = 1 := by rw [t_dash]; rfl
  show (num t.1 ++ ("-" : Str) ++ num t.2).length ≤ 9
  rw [strLen_append, strLen_append]
  omega
noncomputable def m_read_pair : Sv := sSeq (sSet 2 (evLC (evSeq (ev2 oSplit (evVar 0) (evC (.str "-")))) (.nm 3) (evYes) (evF f_read_number (eaCons (evVar 3) (eaCons (evVar 1) (eaNil)))) [3])) (sSeq (sIf (evOr (evB (ev2 oNe (evF fLen (eaCons (evVar 2) (eaNil))) (evC (.int 2)))) (evB (ev2 (oIn false) (evC .non) (evVar 2)))) (sRet (evC .non)) (sSkip)) (sRet (evF fTuple (eaCons (evVar 2) (eaNil)))))
abbrev NRP : List Str := ["word", "most", "numbers", "piece"]
noncomputable def f_read_pair : Fn := fPure m_read_pair NRP 2
theorem ar_read_pair : ∀ ds S r, f_read_pair ds S = some r → ds.length = 2 := pure_ar
theorem sem_read_pair : ∀ ds S d S', f_read_pair ds S = some (d, S') → Sem m_read_pair NRP ds S d S' := pure_sem
theorem spec_read_pair {t : Int × Int} {S : Store} (h : Sml4 t) : f_read_pair [.str (tieS t), .int 4] S = some (tp t, S) := by
  have ln := tie_len h
  have sp : oSplit (.str (tieS t)) (.str "-") S = some (.loc S.length, S ++ [.lst ([num t.1, num t.2].map D.str)]) := by
    rw [← tie_split h]
    exact if_pos ⟨by rw [t_dash]; rfl, by omega⟩
  obtain ⟨A, hA⟩ : ∃ A, A = S ++ [Cell.lst ([num t.1, num t.2].map D.str)] := ⟨_, rfl⟩
  rw [← hA] at sp
  have gA : A[S.length]? = some (.lst ([num t.1, num t.2].map D.str)) := by rw [hA]; exact get_last
  have it : evSeq (ev2 oSplit (evVar 0) (evC (.str "-"))) [some (.str (tieS t)), some (.int 4), none, none] S = some ([t.1, t.2].map (fun z => D.str (num z)), A, grd (.loc S.length) ([num t.1, num t.2].map D.str)) := by
    have e : ev2 oSplit (evVar 0) (evC (.str "-")) [some (.str (tieS t)), some (.int 4), none, none] S = some (.loc S.length, A) := ev2_of rfl rfl sp
    unfold evSeq
    rw [e]
    show (itemsD (.loc S.length) A).map _ = _
    rw [itemsD_of (.inl gA)]; rfl
  obtain ⟨h1, h2, h3, h4⟩ := h
  have lc := lcL_filt (G := grd (.loc S.length) ([num t.1, num t.2].map D.str)) (tg := .nm 3) (tt := evYes) (te := evF f_read_number (eaCons (evVar 3) (eaCons (evVar 1) (eaNil)))) (σ := [some (.str (tieS t)), some (.int 4), none, none]) (S := A) (fun z => D.str (num z)) (fun z => D.int z) (fun _ => true) (fun acc => .inl (getW gA)) [t.1, t.2] [] (fun z hz => ⟨[some (.str (tieS t)), some (.int 4), none, some (.str (num z))], rfl, fun acc => rfl, fun acc => by
    simp only [List.mem_cons, List.not_mem_nil, or_false] at hz
    rcases hz with rfl | rfl
    · exact evF_of (ea2 rfl rfl) (spec_read_number h1 h2)
    · exact evF_of (ea2 rfl rfl) (spec_read_number h3 h4)⟩) (by show 0 + 2 ≤ _; decide)
  have q1 : (sSet 2 (evLC (evSeq (ev2 oSplit (evVar 0) (evC (.str "-")))) (.nm 3) (evYes) (evF f_read_number (eaCons (evVar 3) (eaCons (evVar 1) (eaNil)))) [3])) [some (.str (tieS t)), some (.int 4), none, none] S = some (.nx [some (.str (tieS t)), some (.int 4), some (.loc A.length), none] (A ++ [.lst [.int t.1, .int t.2]])) := by
    refine sSet_of ?_
    unfold evLC
    rw [it]
    show (lcL _ (.nm 3) _ _ [some (.str (tieS t)), some (.int 4), none, none] A.length ([t.1, t.2].map fun z => D.str (num z)) (A ++ [.lst []])).map _ = _
    rw [lc]; rfl
  have gB : (A ++ [Cell.lst [.int t.1, .int t.2]])[A.length]? = some (.lst [.int t.1, .int t.2]) := get_last
  have t1 : (evB (ev2 oNe (evF fLen (eaCons (evVar 2) (eaNil))) (evC (.int 2)))) [some (.str (tieS t)), some (.int 4), some (.loc A.length), none] (A ++ [.lst [.int t.1, .int t.2]]) = some (false, A ++ [.lst [.int t.1, .int t.2]]) := by
    have fl : fLen [.loc A.length] (A ++ [.lst [.int t.1, .int t.2]]) = some (.int 2, A ++ [.lst [.int t.1, .int t.2]]) := by
      show (itemsD (.loc A.length) (A ++ [.lst [.int t.1, .int t.2]])).map _ = _
      rw [itemsD_of (.inl gB)]; rfl
    exact evB_of (ev2_of (evF_of (ea1 rfl) fl) rfl rfl)
  have t2 : (evB (ev2 (oIn false) (evC .non) (evVar 2))) [some (.str (tieS t)), some (.int 4), some (.loc A.length), none] (A ++ [.lst [.int t.1, .int t.2]]) = some (false, A ++ [.lst [.int t.1, .int t.2]]) := by
    refine evB_of (ev2_of rfl rfl ?_)
    unfold oIn
    rw [itemsD_of (.inl gB)]; rfl
  refine pure_app (U := [.lst ([num t.1, num t.2].map D.str)] ++ [.lst [.int t.1, .int t.2]]) ((sSeq_nx q1).trans ((sSeq_nx ((sIf_f ((evOr_f t1).trans t2)).trans rfl)).trans (sRet_of ?_))) rfl rfl
  rw [← List.append_assoc, ← hA]
  exact evF_of (ea1 rfl) (Pt.tuple_loc gB)
noncomputable def m_read_tie : Sv := sSeq (sSet 2 (evF f_read_pair (eaCons (evVar 0) (eaCons (evC (.int 4)) (eaNil))))) (sSeq (sIf (evOr (evB (ev2 (oIsN false) (evVar 2) (evC .non))) (evNot (evB (evCh oLt oLt (ev2 oIx (evVar 2) (evC (.int 0))) (ev2 oIx (evVar 2) (evC (.int 1))) (evVar 1))))) (sRet (evC .non)) (sSkip)) (sRet (evVar 2)))
abbrev NRT : List Str := ["word", "many", "pair"]
noncomputable def f_read_tie : Fn := fPure m_read_tie NRT 2
theorem ar_read_tie : ∀ ds S r, f_read_tie ds S = some r → ds.length = 2 := pure_ar
theorem sem_read_tie : ∀ ds S d S', f_read_tie ds S = some (d, S') → Sem m_read_tie NRT ds S d S' := pure_sem
theorem ti_sml {n : Nat} {t : Int × Int} (hn : n ≤ 10000) (h : Ti n t) : Sml4 t := by
  obtain ⟨a, b, c⟩ := h
  exact ⟨a, by omega, by omega, by omega⟩
theorem spec_read_tie {n : Nat} {t : Int × Int} {S : Store} (hn : n ≤ 10000) (h : Ti n t) : f_read_tie [.str (tieS t), .int (n : Int)] S = some (tp t, S) := by
  have q1 : (sSet 2 (evF f_read_pair (eaCons (evVar 0) (eaCons (evC (.int 4)) (eaNil))))) [some (.str (tieS t)), some (.int (n : Int)), none] S = some (.nx [some (.str (tieS t)), some (.int (n : Int)), some (tp t)] S) := sSet_of (evF_of (ea2 rfl rfl) (spec_read_pair (ti_sml hn h)))
  obtain ⟨a, b, c⟩ := h
  have t1 : (evB (ev2 (oIsN false) (evVar 2) (evC .non))) [some (.str (tieS t)), some (.int (n : Int)), some (tp t)] S = some (false, S) := evB_of rfl
  have ch : (evCh oLt oLt (ev2 oIx (evVar 2) (evC (.int 0))) (ev2 oIx (evVar 2) (evC (.int 1))) (evVar 1)) [some (.str (tieS t)), some (.int (n : Int)), some (tp t)] S = some (.bl true, S) := by
    show (match D.bl (decide (t.1 < t.2)) with
      | .bl true => some (D.bl (decide (t.2 < (n : Int))), S)
      | .bl false => some (.bl false, S)
      | _ => none) = _
    rw [decide_eq_true b, decide_eq_true c]
  exact pure_rt ((sSeq_nx q1).trans ((sSeq_nx ((sIf_f ((evOr_f t1).trans (evNot_of (evB_of ch)))).trans rfl)).trans (sRet_of rfl))) rfl
end Rd
set_option maxHeartbeats 1000000
namespace Rd
open PySem L2 Q2
open Pf hiding f_law_odd f_law_feed spec_feed
open Pw (allL_of evAnd_t evAnd_f)
open Pt (fPure pure_rt pure_app pure_sem pure_ar)
open Px (tp pw lcL_filt range_from)
open Pk (Ti)
open Pm (from_cons ix0)
open Ss (ltP Up)
open Po (expr_append)
/-! ### webs told as texts -/
abbrev wordsS (n : Nat) (ts : List (Int × Int)) : List Str := num (n : Int) :: ts.map tieS
abbrev textS (n : Nat) (ts : List (Int × Int)) : Str := Txt.join " " (wordsS n ts)
theorem log_small {z : Int} (h0 : 0 ≤ z) (h : z < 10000) : z.natAbs.log2 < 1920 := by
  by_cases hz : z.natAbs = 0
  · rw [hz]; decide
  · have : z.natAbs.log2 < 14 := (Nat.log2_lt hz).mpr (by omega)
    omega
theorem str_num {z : Int} {S : Store} (h0 : 0 ≤ z) (h : z < 10000) : fStrI [.int z] S = some (.str (num z), S) := if_pos (log_small h0 h)
theorem oAdd_str {a b : Str} {S : Store} (h : a.length + b.length ≤ 1000000) : oAdd (.str a) (.str b) S = some (.str (a ++ b), S) := if_pos h
theorem dash_len : ("-" : Str).length = 1 := by rw [t_dash]; rfl
theorem sum_ties : ∀ ts : List (Int × Int), (∀ t ∈ ts, Sml4 t) → ((ts.map tieS).map (·.length)).sum ≤ 9 * ts.length
  | [], _ => Nat.le_refl _
  | t :: ts, h => by
    have ih := sum_ties ts fun u hu => h u (List.mem_cons_of_mem _ hu)
    have := tie_len (h t List.mem_cons_self)
    rw [List.map_cons, List.map_cons, List.sum_cons, List.length_cons]
    omega
theorem join_ok {n : Nat} {ts : List (Int × Int)} {S : Store} {m : Nat} (hn : n < 10000) (h : ∀ t ∈ ts, Sml4 t) (hl : ts.length ≤ 900) (hm : S[m]? = some (.lst ((wordsS n ts).map D.str))) : oJoin (.str " ") (.loc m) S = some (.str (textS n ts), S) := by
  show (itemsD (.loc m) S).bind _ = _
  rw [itemsD_of (.inl hm), Option.bind_some, strs?_of, Option.bind_some]
  refine if_pos ?_
  have a := sum_ties ts h
  have b := num_len (z := (n : Int)) (by omega) (by omega)
  have c : (" " : Str).length = 1 := by rw [t_gap]; rfl
  rw [c, List.map_cons, List.sum_cons, List.length_cons, List.length_map]
  omega
theorem words_add {n : Nat} {ts : List (Int × Int)} {S : Store} {a b : Nat} (ha : S[a]? = some (.lst [.str (num (n : Int))])) (hb : S[b]? = some (.lst (ts.map fun t => D.str (tieS t)))) (hl : ts.length ≤ 900) : oAdd (.loc a) (.loc b) S = some (.loc S.length, S ++ [.lst ((wordsS n ts).map D.str)]) := by
  unfold oAdd
  dsimp only
  rw [ha, hb]
  dsimp only
  rw [if_pos (by rw [List.length_map]; show 1 + _ ≤ _; omega)]
  have : [D.str (num (n : Int))] ++ (ts.map fun t => D.str (tieS t)) = (wordsS n ts).map D.str := by
    show D.str (num (n : Int)) :: (ts.map fun t => D.str (tieS t)) = D.str (num (n : Int)) :: (ts.map tieS).map D.str
    rw [List.map_map]; rfl
  rw [this]
noncomputable def m_law_text : Sv := sRet (ev2 oJoin (evC (.str " ")) (ev2 oAdd (evLst (eaCons (evF fStrI (eaCons (ev2 oIx (evVar 0) (evC (.int 0))) (eaNil))) (eaNil))) (evLC (evSeq (ev2 oIx (evVar 0) (evC (.int 1)))) (.tp [1, 2]) (evYes) (ev2 oAdd (ev2 oAdd (evF fStrI (eaCons (evVar 1) (eaNil))) (evC (.str "-"))) (evF fStrI (eaCons (evVar 2) (eaNil)))) [1, 2])))
abbrev NLT : List Str := ["_law_web_here", "_law_i", "_law_j"]
noncomputable def f_law_text : Fn := fPure m_law_text NLT 1
theorem ar_law_text : ∀ ds S r, f_law_text ds S = some r → ds.length = 1 := pure_ar
theorem sem_law_text : ∀ ds S d S', f_law_text ds S = some (d, S') → Sem m_law_text NLT ds S d S' := pure_sem
theorem spec_law_text {n : Nat} {ts : List (Int × Int)} {S : Store} (hn : n < 10000) (h : ∀ t ∈ ts, Ti n t) (hl : ts.length ≤ 900) : f_law_text [pw n ts] S = some (.str (textS n ts), S) := by
  have hs : ∀ t ∈ ts, Sml4 t := fun t ht => ti_sml (by omega) (h t ht)
  have e1 : evLst (eaCons (evF fStrI (eaCons (ev2 oIx (evVar 0) (evC (.int 0))) (eaNil))) (eaNil)) [some (pw n ts), none, none] S = some (.loc S.length, S ++ [.lst [.str (num (n : Int))]]) := evLst_of (ea1 (evF_of (ea1 (ev2_of rfl rfl ix0)) (str_num (by omega) (by omega)))) (by show 1 ≤ 1000; decide)
  have e2 := evLC_map (it := evSeq (ev2 oIx (evVar 0) (evC (.int 1)))) (tg := .tp [1, 2]) (te := ev2 oAdd (ev2 oAdd (evF fStrI (eaCons (evVar 1) (eaNil))) (evC (.str "-"))) (evF fStrI (eaCons (evVar 2) (eaNil)))) (vs := [1, 2]) (σ := [some (pw n ts), none, none]) (S := S ++ [.lst [.str (num (n : Int))]]) (S1 := S ++ [.lst [.str (num (n : Int))]]) (G := grd (.tup (ts.map tp)) (ts.map tp)) tp (fun t => D.str (tieS t)) ts rfl (fun _ => trivial) (fun t ht => ⟨[some (pw n ts), some (.int t.1), some (.int t.2)], rfl, fun acc => by
    obtain ⟨a, b, c, d⟩ := hs t ht
    have x := num_len a b
    have y := num_len c d
    have w := dash_len
    refine ev2_of (ev2_of (evF_of (ea1 rfl) (str_num a b)) rfl (oAdd_str (by omega))) (evF_of (ea1 rfl) (str_num c d)) (oAdd_str ?_)
    rw [strLen_append]
    omega⟩) (by omega)
  obtain ⟨A, hA⟩ : ∃ A, A = S ++ [Cell.lst [.str (num (n : Int))]] ++ [.lst (ts.map fun t => D.str (tieS t))] := ⟨_, rfl⟩
  rw [← hA] at e2
  have e3 := words_add (n := n) (ts := ts) (S := A) (a := S.length) (b := (S ++ [Cell.lst [.str (num (n : Int))]]).length) (by rw [hA]; exact getW get_last) (by rw [hA]; exact get_last) hl
  have e4 := join_ok (n := n) (ts := ts) (S := A ++ [.lst ((wordsS n ts).map D.str)]) (m := A.length) hn hs hl get_last
  refine pure_app (U := [.lst [.str (num (n : Int))]] ++ [.lst (ts.map fun t => D.str (tieS t))] ++ [.lst ((wordsS n ts).map D.str)]) (sRet_of ?_) rfl rfl
  rw [← List.append_assoc, ← List.append_assoc, ← hA]
  exact ev2_of rfl (ev2_of e1 e2 e3) e4
theorem nums_tie (t : Int × Int) : numsText "-" t.1 t.2 = tieS t := by
  show Str.empty ++ num t.1 ++ ("-" : Str) ++ num t.2 = num t.1 ++ ("-" : Str) ++ num t.2
  have : Str.empty ++ num t.1 = num t.1 := by
    refine Str.ext' (Array.toList_inj.mp ?_)
    rw [Str.cps_append, Array.toList_append]; rfl
  rw [this]
noncomputable def m_web_text : Sv := sRet (ev2 oJoin (evC (.str " ")) (ev2 oAdd (evLst (eaCons (evF fStrI (eaCons (ev2 oIx (evVar 0) (evC (.int 0))) (eaNil))) (eaNil))) (evLC (evSeq (ev2 oIx (evVar 0) (evC (.int 1)))) (.tp [1, 2]) (evYes) (evNums "-" (evVar 1) (evVar 2)) [1, 2])))
abbrev NWT : List Str := ["web", "i", "j"]
noncomputable def f_web_text : Fn := fPure m_web_text NWT 1
theorem ar_web_text : ∀ ds S r, f_web_text ds S = some r → ds.length = 1 := pure_ar
theorem sem_web_text : ∀ ds S d S', f_web_text ds S = some (d, S') → Sem m_web_text NWT ds S d S' := pure_sem
theorem spec_web_text {n : Nat} {ts : List (Int × Int)} {S : Store} (hn : n < 10000) (h : ∀ t ∈ ts, Ti n t) (hl : ts.length ≤ 900) : f_web_text [pw n ts] S = some (.str (textS n ts), S) := by
  have hs : ∀ t ∈ ts, Sml4 t := fun t ht => ti_sml (by omega) (h t ht)
  have e1 : evLst (eaCons (evF fStrI (eaCons (ev2 oIx (evVar 0) (evC (.int 0))) (eaNil))) (eaNil)) [some (pw n ts), none, none] S = some (.loc S.length, S ++ [.lst [.str (num (n : Int))]]) := evLst_of (ea1 (evF_of (ea1 (ev2_of rfl rfl ix0)) (str_num (by omega) (by omega)))) (by show 1 ≤ 1000; decide)
  have e2 := evLC_map (it := evSeq (ev2 oIx (evVar 0) (evC (.int 1)))) (tg := .tp [1, 2]) (te := evNums "-" (evVar 1) (evVar 2)) (vs := [1, 2]) (σ := [some (pw n ts), none, none]) (S := S ++ [.lst [.str (num (n : Int))]]) (S1 := S ++ [.lst [.str (num (n : Int))]]) (G := grd (.tup (ts.map tp)) (ts.map tp)) tp (fun t => D.str (tieS t)) ts rfl (fun _ => trivial) (fun t ht => ⟨[some (pw n ts), some (.int t.1), some (.int t.2)], rfl, fun acc => by
    obtain ⟨a, b, c, d⟩ := hs t ht
    have x := num_len a b
    have y := tie_len (hs t ht)
    have w := dash_len
    have z : Str.empty.length = 0 := rfl
    rw [← nums_tie t] at y ⊢
    refine if_pos ⟨log_small a b, log_small c d, ?_, by omega⟩
    have x' : (Str.ofString (toString t.1)).length ≤ 4 := x
    rw [strLen_append, strLen_append]
    omega⟩) (by omega)
  obtain ⟨A, hA⟩ : ∃ A, A = S ++ [Cell.lst [.str (num (n : Int))]] ++ [.lst (ts.map fun t => D.str (tieS t))] := ⟨_, rfl⟩
  rw [← hA] at e2
  have e3 := words_add (n := n) (ts := ts) (S := A) (a := S.length) (b := (S ++ [Cell.lst [.str (num (n : Int))]]).length) (by rw [hA]; exact getW get_last) (by rw [hA]; exact get_last) hl
  have e4 := join_ok (n := n) (ts := ts) (S := A ++ [.lst ((wordsS n ts).map D.str)]) (m := A.length) hn hs hl get_last
  refine pure_app (U := [.lst [.str (num (n : Int))]] ++ [.lst (ts.map fun t => D.str (tieS t))] ++ [.lst ((wordsS n ts).map D.str)]) (sRet_of ?_) rfl rfl
  rw [← List.append_assoc, ← List.append_assoc, ← hA]
  exact ev2_of rfl (ev2_of e1 e2 e3) e4
/-! ### and read -/
theorem text_split {n : Nat} {ts : List (Int × Int)} (hn : n < 10000) (h : ∀ t ∈ ts, Sml4 t) : Txt.split (textS n ts) " " = wordsS n ts := by
  have e : textS n ts = Str.join ⟨#[32]⟩ (wordsS n ts) := by
    show Builtin.Str.glued " " (wordsS n ts) = _
    rw [StrLaws.glued_eq_join, t_gap]
  rw [e, t_gap]
  refine split_join (by intro z; cases z) fun w hw => ?_
  rcases List.mem_cons.mp hw with rfl | hw
  · exact num_apart (by omega) (by omega) (by decide)
  · obtain ⟨t, ht, rfl⟩ := List.mem_map.mp hw
    obtain ⟨a, b, c, d⟩ := h t ht
    intro m
    have m : 32 ∈ (num t.1 ++ ("-" : Str) ++ num t.2).cps.toList := m
    rw [Str.cps_append, Str.cps_append, Array.toList_append, Array.toList_append, t_dash] at m
    rcases List.mem_append.mp m with m | m
    · rcases List.mem_append.mp m with m | m
      · exact num_apart a b (by decide) m
      · rcases List.mem_singleton.mp m with m
        cases m
    · exact num_apart c d (by decide) m
theorem lt_not_le {l t : Int × Int} (h : ltP l t = true) : le2 t l = false := by
  unfold ltP at h
  unfold le2
  by_cases e : l.1 = t.1
  · rw [if_pos e] at h
    have := of_decide_eq_true h
    rw [if_pos e.symm, decide_eq_false (by omega)]
  · rw [if_neg e] at h
    have := of_decide_eq_true h
    rw [if_neg (fun z => e z.symm), decide_eq_false (by omega)]
noncomputable def m_read_web : Sv := sSeq (sSet 1 (ev2 oSplit (evVar 0) (evC (.str " ")))) (sSeq (sSet 2 (evF f_read_number (eaCons (ev2 oIx (evVar 1) (evC (.int 0))) (eaCons (evC (.int 4)) (eaNil))))) (sSeq (sIf (evB (ev2 (oIsN false) (evVar 2) (evC .non))) (sDead) (sSkip)) (sSeq (sSet 3 (evLst (eaNil))) (sSeq (sFor (evRng (eaCons (evC (.int 1)) (eaCons (evF fLen (eaCons (evVar 1) (eaNil))) (eaNil)))) (.nm 4) (sSeq (sSet 5 (evF f_read_tie (eaCons (ev2 oIx (evVar 1) (evVar 4)) (eaCons (evVar 2) (eaNil))))) (sSeq (sIf (evOr (evB (ev2 (oIsN false) (evVar 5) (evC .non))) (evAnd (evTru (evVar 3)) (evB (ev2 oLe2 (evVar 5) (ev2 oIx (evVar 3) (ev1 oNeg (evC (.int 1)))))))) (sDead) (sSkip)) (sExpr (evM fAppend (evVar 3) (eaCons (evVar 5) (eaNil))))))) (sRet (evTup (eaCons (evVar 2) (eaCons (evF fTuple (eaCons (evVar 3) (eaNil))) (eaNil)))))))))
abbrev NRW : List Str := ["text", "words", "many", "ties", "place", "tie"]
noncomputable def f_read_web : Fn := fPure m_read_web NRW 1
theorem ar_read_web : ∀ ds S r, f_read_web ds S = some r → ds.length = 1 := pure_ar
theorem sem_read_web : ∀ ds S d S', f_read_web ds S = some (d, S') → Sem m_read_web NRW ds S d S' := pure_sem
noncomputable abbrev rdStep : Sv := sSeq (sSet 5 (evF f_read_tie (eaCons (ev2 oIx (evVar 1) (evVar 4)) (eaCons (evVar 2) (eaNil))))) (sSeq (sIf (evOr (evB (ev2 (oIsN false) (evVar 5) (evC .non))) (evAnd (evTru (evVar 3)) (evB (ev2 oLe2 (evVar 5) (ev2 oIx (evVar 3) (ev1 oNeg (evC (.int 1)))))))) (sDead) (sSkip)) (sExpr (evM fAppend (evVar 3) (eaCons (evVar 5) (eaNil)))))
theorem set_end {A : Store} {a b : Cell} : (A ++ [a]).set A.length b = A ++ [b] := by
  rw [List.set_append_right _ _ (Nat.le_refl _), Nat.sub_self]; rfl
theorem rd_loop {n wl : Nat} {A : Store} {ws : List D} {u0 : Option D} (hn : n ≤ 10000) (hw : A[wl]? = some (.lst ws)) : ∀ (rest acc : List (Int × Int)) (k : Nat) (u4 u5 : Option D), ws.drop k = rest.map (fun t => D.str (tieS t)) → (∀ t ∈ rest, Ti n t) → Up (acc ++ rest) → acc.length + rest.length ≤ 900 →
    ∃ v4 v5, forL (fun _ => True) (.nm 4) rdStep (from_ k rest.length) [u0, some (.loc wl), some (.int (n : Int)), some (.loc A.length), u4, u5] (A ++ [.lst (acc.map tp)]) = some (.nx [u0, some (.loc wl), some (.int (n : Int)), some (.loc A.length), v4, v5] (A ++ [.lst ((acc ++ rest).map tp)]))
  | [], acc, k, u4, u5, _, _, _, _ => ⟨u4, u5, by rw [List.append_nil]; exact forL_nil trivial⟩
  | t :: rest, acc, k, u4, u5, hd, ht, up, hl => by
    rw [List.length_cons] at hl
    have hk : ws[k]? = some (.str (tieS t)) := by
      have := congrArg (fun z : List D => z[0]?) hd
      rw [List.getElem?_drop] at this
      exact this
    have hd' : ws.drop (k + 1) = rest.map (fun t => D.str (tieS t)) := by
      rw [← List.drop_drop, hd]; rfl
    have gw : (A ++ [Cell.lst (acc.map tp)])[wl]? = some (.lst ws) := getW hw
    have gl : (A ++ [Cell.lst (acc.map tp)])[A.length]? = some (.lst (acc.map tp)) := get_last
    have q1 : (sSet 5 (evF f_read_tie (eaCons (ev2 oIx (evVar 1) (evVar 4)) (eaCons (evVar 2) (eaNil))))) [u0, some (.loc wl), some (.int (n : Int)), some (.loc A.length), some (.int (k : Int)), u5] (A ++ [.lst (acc.map tp)]) = some (.nx [u0, some (.loc wl), some (.int (n : Int)), some (.loc A.length), some (.int (k : Int)), some (tp t)] (A ++ [.lst (acc.map tp)])) := by
      refine sSet_of (evF_of (ea2 (ev2_of rfl rfl ?_) rfl) (spec_read_tie hn (ht t List.mem_cons_self)))
      rw [oIx_loc (.inl gw), L2.atI_nat hk]; rfl
    have t0 : (evB (ev2 (oIsN false) (evVar 5) (evC .non))) [u0, some (.loc wl), some (.int (n : Int)), some (.loc A.length), some (.int (k : Int)), some (tp t)] (A ++ [.lst (acc.map tp)]) = some (false, A ++ [.lst (acc.map tp)]) := evB_of rfl
    have t1 : (evAnd (evTru (evVar 3)) (evB (ev2 oLe2 (evVar 5) (ev2 oIx (evVar 3) (ev1 oNeg (evC (.int 1))))))) [u0, some (.loc wl), some (.int (n : Int)), some (.loc A.length), some (.int (k : Int)), some (tp t)] (A ++ [.lst (acc.map tp)]) = some (false, A ++ [.lst (acc.map tp)]) := by
      have tr : evTru (evVar 3) [u0, some (.loc wl), some (.int (n : Int)), some (.loc A.length), some (.int (k : Int)), some (tp t)] (A ++ [.lst (acc.map tp)]) = some (!(acc.map tp).isEmpty, A ++ [.lst (acc.map tp)]) := evTru_of rfl (by unfold truth; dsimp only; rw [gl])
      rcases List.eq_nil_or_concat acc with rfl | ⟨init, l, rfl⟩
      · exact evAnd_f tr
      · rw [List.concat_eq_append] at up gl tr ⊢
        have ne : (!((init ++ [l]).map tp).isEmpty) = true := by rw [List.map_append]; simp
        rw [ne] at tr
        refine (evAnd_t tr).trans (evB_of (ev2_of rfl (ev2_of rfl rfl (r := (tp l, A ++ [.lst ((init ++ [l]).map tp)])) ?_) (r := (.bl false, A ++ [.lst ((init ++ [l]).map tp)])) ?_))
        · rw [oIx_loc (.inl gl), List.map_append]
          show (L2.atI (init.map tp ++ [tp l]) (-1)).map _ = _
          rw [L2.atI_last]; rfl
        · show some (D.bl (le2 t l), _) = _
          rw [lt_not_le]
          exact (List.pairwise_append.mp up).2.2 l (List.mem_append_right _ List.mem_cons_self) t List.mem_cons_self
    have q2 := expr_append (o := evVar 3) (r := eaCons (evVar 5) eaNil) (σ := [u0, some (.loc wl), some (.int (n : Int)), some (.loc A.length), some (.int (k : Int)), some (tp t)]) (x := tp t) rfl (ea1 rfl) gl gl (by rw [List.length_map]; omega)
    rw [set_end, show acc.map tp ++ [tp t] = (acc ++ [t]).map tp from (List.map_append (f := tp) (l₁ := acc) (l₂ := [t])).symm] at q2
    have st : rdStep [u0, some (.loc wl), some (.int (n : Int)), some (.loc A.length), some (.int (k : Int)), u5] (A ++ [.lst (acc.map tp)]) = _ := (sSeq_nx q1).trans ((sSeq_nx ((sIf_f ((evOr_f t0).trans t1)).trans rfl)).trans q2)
    obtain ⟨v4, v5, e⟩ := rd_loop (n := n) (wl := wl) (A := A) (ws := ws) (u0 := u0) hn hw rest (acc ++ [t]) (k + 1) (some (.int (k : Int))) (some (tp t)) hd' (fun u hu => ht u (List.mem_cons_of_mem _ hu)) (by rw [List.append_assoc]; exact up) (by rw [List.length_append, List.length_singleton]; omega)
    rw [List.append_assoc] at e
    exact ⟨v4, v5, (from_cons k rest.length ▸ forL_cons trivial rfl st).trans e⟩
theorem text_len {n : Nat} {ts : List (Int × Int)} (hn : n < 10000) (h : ∀ t ∈ ts, Sml4 t) (hl : ts.length ≤ 900) : (textS n ts).length ≤ 20000 := by
  have := StrLaws.join_length_le " " (wordsS n ts)
  have e : textS n ts = Str.join " " (wordsS n ts) := StrLaws.glued_eq_join _ _
  rw [e]
  have a := sum_ties ts h
  have b := num_len (z := (n : Int)) (by omega) (by omega)
  have c : (" " : Str).length = 1 := by rw [t_gap]; rfl
  rw [c, List.map_cons, List.sum_cons, List.length_cons, List.length_map] at this
  omega
theorem spec_read_web {n : Nat} {ts : List (Int × Int)} {S : Store} (hn : n < 10000) (h : ∀ t ∈ ts, Ti n t) (up : Up ts) (hl : ts.length ≤ 900) : f_read_web [.str (textS n ts)] S = some (pw n ts, S) := by
  have hs : ∀ t ∈ ts, Sml4 t := fun t ht => ti_sml (by omega) (h t ht)
  have tl := text_len hn hs hl
  obtain ⟨B, hB⟩ : ∃ B, B = S ++ [Cell.lst ((wordsS n ts).map D.str)] := ⟨_, rfl⟩
  have gB : B[S.length]? = some (.lst ((wordsS n ts).map D.str)) := by rw [hB]; exact get_last
  have sp : oSplit (.str (textS n ts)) (.str " ") S = some (.loc S.length, B) := by
    rw [hB, ← text_split hn hs]
    exact if_pos ⟨by rw [t_gap]; rfl, by omega⟩
  have q1 : (sSet 1 (ev2 oSplit (evVar 0) (evC (.str " ")))) (startD NRW [.str (textS n ts)]) S = some (.nx [some (.str (textS n ts)), some (.loc S.length), none, none, none, none] B) := sSet_of (ev2_of rfl rfl sp)
  have q2 : (sSet 2 (evF f_read_number (eaCons (ev2 oIx (evVar 1) (evC (.int 0))) (eaCons (evC (.int 4)) (eaNil))))) [some (.str (textS n ts)), some (.loc S.length), none, none, none, none] B = some (.nx [some (.str (textS n ts)), some (.loc S.length), some (.int (n : Int)), none, none, none] B) := by
    refine sSet_of (evF_of (ea2 (ev2_of rfl rfl ?_) rfl) (spec_read_number (by omega) (by omega)))
    rw [oIx_loc (.inl gB), show L2.atI ((wordsS n ts).map D.str) 0 = some (D.str (num (n : Int))) from L2.atI_nat (j := 0) rfl]; rfl
  have t0 : (evB (ev2 (oIsN false) (evVar 2) (evC .non))) [some (.str (textS n ts)), some (.loc S.length), some (.int (n : Int)), none, none, none] B = some (false, B) := evB_of rfl
  have q3 : (sSet 3 (evLst (eaNil))) [some (.str (textS n ts)), some (.loc S.length), some (.int (n : Int)), none, none, none] B = some (.nx [some (.str (textS n ts)), some (.loc S.length), some (.int (n : Int)), some (.loc B.length), none, none] (B ++ [.lst (([] : List (Int × Int)).map tp)])) := rfl
  have gB' : (B ++ [Cell.lst (([] : List (Int × Int)).map tp)])[S.length]? = some (.lst ((wordsS n ts).map D.str)) := getW gB
  have it : (evRng (eaCons (evC (.int 1)) (eaCons (evF fLen (eaCons (evVar 1) (eaNil))) (eaNil)))) [some (.str (textS n ts)), some (.loc S.length), some (.int (n : Int)), some (.loc B.length), none, none] (B ++ [.lst (([] : List (Int × Int)).map tp)]) = some (from_ 1 ts.length, B ++ [.lst (([] : List (Int × Int)).map tp)], fun _ => True) := by
    have ln : evF fLen (eaCons (evVar 1) (eaNil)) [some (.str (textS n ts)), some (.loc S.length), some (.int (n : Int)), some (.loc B.length), none, none] (B ++ [.lst (([] : List (Int × Int)).map tp)]) = some (.int ((ts.length + 1 : Nat) : Int), B ++ [.lst (([] : List (Int × Int)).map tp)]) := by
      refine evF_of (ea1 rfl) ?_
      show (itemsD (.loc S.length) (B ++ [.lst (([] : List (Int × Int)).map tp)])).map _ = _
      rw [itemsD_of (.inl gB')]
      show some (D.int ((((wordsS n ts).map D.str).length : Nat) : Int), _) = _
      rw [List.length_map, List.length_cons, List.length_map]
    rw [evRng_two (i := ((1 : Nat) : Int)) (j := ((ts.length + 1 : Nat) : Int)) (ea2 rfl ln) ⟨by omega, by omega⟩ ⟨by omega, by omega⟩, show (((ts.length + 1 : Nat) : Int) - ((1 : Nat) : Int)).toNat = ts.length by omega, range_from]
  obtain ⟨v4, v5, e⟩ := rd_loop (n := n) (wl := S.length) (A := B) (ws := (wordsS n ts).map D.str) (u0 := some (.str (textS n ts))) (by omega) gB ts [] 1 none none (by
    show (ts.map tieS).map D.str = _
    rw [List.map_map]; rfl) h up (by show 0 + _ ≤ _; omega)
  rw [List.nil_append] at e
  refine pure_app (U := [.lst ((wordsS n ts).map D.str)] ++ [.lst (ts.map tp)]) ((sSeq_nx q1).trans ((sSeq_nx q2).trans ((sSeq_nx ((sIf_f t0).trans rfl)).trans ((sSeq_nx q3).trans ((sSeq_nx ((sFor_of it).trans e)).trans (sRet_of ?_)))))) ?_ rfl
  · rw [← List.append_assoc, ← hB]
    exact evTup_of (ea2 rfl (evF_of (ea1 rfl) (Pt.tuple_loc get_last))) (by show 2 ≤ 1000; decide)
  · exact Pt.cl_web
end Rd
set_option maxHeartbeats 1000000
namespace Rd
open PySem L2 Q2
open Pf hiding NB m_law_bent f_law_bent f_law_odd f_law_feed spec_feed
open Pw hiding Out Out.pre run_ways out_odd run_bent P_bent fr_law_bent spec_bent f_law_bent m_law f_law NL Gd Gd.mono LInv lookStep look_one
open Px (tp pw range_from)
open Po (fRun run_ar run_sem run_of expr_append)
open Pk (Ti tri tri9)
open Pm (from_cons f_law_web inStep outStep NW m_law_web)
open Ss (ltP Up sortP sortP_perm sortP_up)
/-! ### a web drawn tie by tie rises -/
theorem lt_same {i a b : Int} (h : a < b) : ltP (i, a) (i, b) = true := by
  unfold ltP
  rw [if_pos rfl]
  exact decide_eq_true h
theorem lt_first {p q : Int × Int} (h : p.1 < q.1) : ltP p q = true := by
  unfold ltP
  rw [if_neg (by omega)]
  exact decide_eq_true h
theorem in_up {S0 : Store} {fl q n i : Nat} (hq : fl < q) (hS : S0.length ≤ q) {u1 u2 : Option D} {o : Int} : ∀ (f j : Nat) (T : Store) (acc : List (Int × Int)) (u6 : Option D), i < j → j + f ≤ n ∨ f = 0 → Stp fl S0 T → T[q]? = some (.lst (acc.map tp)) → acc.length + f ≤ 900 → ∃ T' ps v6,
    forL (fun _ => True) (.nm 6) inStep (from_ j f) [some (.loc fl), u1, u2, some (.int o), some (.loc q), some (.int (i : Int)), u6] T = some (.nx [some (.loc fl), u1, u2, some (.int o), some (.loc q), some (.int (i : Int)), v6] T') ∧ Stp fl S0 T' ∧ T'[q]? = some (.lst ((acc ++ ps).map tp)) ∧ ps.length ≤ f ∧ (∀ p ∈ ps, Ti n p) ∧ (∀ p ∈ ps, p.1 = (i : Int) ∧ (j : Int) ≤ p.2) ∧ Up ps
  | 0, j, T, acc, u6, _, _, st, hg, _ => ⟨T, [], u6, forL_nil trivial, st, by rw [List.append_nil]; exact hg, Nat.le_refl _, (fun p hp => by cases hp), (fun p hp => by cases hp), List.Pairwise.nil⟩
  | f + 1, j, T, acc, u6, hij, hj, st, hg, hl => by
    obtain ⟨r, T1, e1, hr, hl1, st1⟩ := spec_draw_nat (m := 5) st.fd (by decide) (by decide)
    have t1 : (evB (ev2 oLt (evF f_law_draw (eaCons (evVar 0) (eaCons (evC (.int 5)) (eaNil)))) (evVar 3))) [some (.loc fl), u1, u2, some (.int o), some (.loc q), some (.int (i : Int)), some (.int (j : Int))] T = some (decide ((r : Int) < o), T1) := evB_of (ev2_of (evF_of (ea2 rfl rfl) e1) rfl rfl)
    have g1 : T1[q]? = some (.lst (acc.map tp)) := st1.get (by omega) hg
    by_cases h : (r : Int) < o
    · rw [decide_eq_true h] at t1
      have q1 : (sExpr (evM fAppend (evVar 4) (eaCons (evTup (eaCons (evVar 5) (eaCons (evVar 6) (eaNil)))) (eaNil)))) [some (.loc fl), u1, u2, some (.int o), some (.loc q), some (.int (i : Int)), some (.int (j : Int))] T1 = some (.nx [some (.loc fl), u1, u2, some (.int o), some (.loc q), some (.int (i : Int)), some (.int (j : Int))] (T1.set q (.lst ((acc ++ [((i : Int), (j : Int))]).map tp)))) := by
        refine (expr_append rfl (ea1 (evTup_of (ea2 rfl rfl) (by show 2 ≤ 1000; decide))) g1 g1 (by rw [List.length_map]; omega)).trans ?_
        rw [List.map_append]; rfl
      obtain ⟨T', ps, v6, e, st', g, l, hp, hf, hu⟩ := in_up (n := n) (i := i) hq hS (u1 := u1) (u2 := u2) (o := o) f (j + 1) (T1.set q (.lst ((acc ++ [((i : Int), (j : Int))]).map tp))) (acc ++ [((i : Int), (j : Int))]) (some (.int (j : Int))) (by omega) (by omega) ((st.trans st1).wr hq hS) (get_set g1) (by rw [List.length_append, List.length_singleton]; omega)
      refine ⟨T', ((i : Int), (j : Int)) :: ps, v6, (from_cons j f ▸ forL_cons trivial rfl ((sIf_t t1).trans q1)).trans e, st', by rw [List.append_assoc] at g; exact g, by rw [List.length_cons]; omega, fun p h => ?_, fun p h => ?_, List.pairwise_cons.mpr ⟨fun p h => ?_, hu⟩⟩
      · rcases List.mem_cons.mp h with rfl | h
        · exact ⟨by show (0 : Int) ≤ (i : Int); omega, by show (i : Int) < (j : Int); omega, by show (j : Int) < (n : Int); omega⟩
        · exact hp p h
      · rcases List.mem_cons.mp h with rfl | h
        · exact ⟨rfl, Int.le_refl _⟩
        · have := hf p h
          exact ⟨this.1, by omega⟩
      · obtain ⟨h1, h2⟩ := hf p h
        obtain ⟨p1, p2⟩ := p
        have h1 : p1 = (i : Int) := h1
        subst h1
        exact lt_same (by dsimp only at h2; omega)
    · rw [decide_eq_false h] at t1
      obtain ⟨T', ps, v6, e, st', g, l, hp, hf, hu⟩ := in_up (n := n) (i := i) hq hS (u1 := u1) (u2 := u2) (o := o) f (j + 1) T1 acc (some (.int (j : Int))) (by omega) (by omega) (st.trans st1) g1 (by omega)
      exact ⟨T', ps, v6, (from_cons j f ▸ forL_cons trivial rfl ((sIf_f t1).trans rfl)).trans e, st', g, by omega, hp, (fun p h => by have := hf p h; exact ⟨this.1, by omega⟩), hu⟩
theorem out_up {S0 : Store} {fl q n : Nat} (hn : n ≤ 20) (hq : fl < q) (hS : S0.length ≤ q) {u1 : Option D} {o : Int} : ∀ (f i : Nat) (T : Store) (acc : List (Int × Int)) (u5 u6 : Option D), i + f = n → Stp fl S0 T → T[q]? = some (.lst (acc.map tp)) → acc.length + tri f ≤ 800 → ∃ T' ps v5 v6,
    forL (fun _ => True) (.nm 5) outStep (from_ i f) [some (.loc fl), u1, some (.int (n : Int)), some (.int o), some (.loc q), u5, u6] T = some (.nx [some (.loc fl), u1, some (.int (n : Int)), some (.int o), some (.loc q), v5, v6] T') ∧ Stp fl S0 T' ∧ T'[q]? = some (.lst ((acc ++ ps).map tp)) ∧ ps.length ≤ tri f ∧ (∀ p ∈ ps, Ti n p) ∧ (∀ p ∈ ps, (i : Int) ≤ p.1) ∧ Up ps
  | 0, i, T, acc, u5, u6, _, st, hg, _ => ⟨T, [], u5, u6, forL_nil trivial, st, by rw [List.append_nil]; exact hg, Nat.zero_le _, (fun p hp => by cases hp), (fun p hp => by cases hp), List.Pairwise.nil⟩
  | f + 1, i, T, acc, u5, u6, hi, st, hg, hl => by
    have ht : tri (f + 1) = tri f + f := rfl
    rw [ht] at hl
    obtain ⟨T1, ps1, w6, e1, st1, g1, l1, p1, f1, up1⟩ := in_up (n := n) (i := i) hq hS (u1 := u1) (u2 := some (.int (n : Int))) (o := o) (n - (i + 1)) (i + 1) T acc u6 (by omega) (by omega) st hg (by omega)
    have q1 : outStep [some (.loc fl), u1, some (.int (n : Int)), some (.int o), some (.loc q), some (.int (i : Int)), u6] T = some (.nx [some (.loc fl), u1, some (.int (n : Int)), some (.int o), some (.loc q), some (.int (i : Int)), w6] T1) := by
      refine (sFor_of (items := from_ (i + 1) (n - (i + 1))) (S1 := T) (G := fun _ => True) ?_).trans e1
      rw [evRng_two (i := ((i + 1 : Nat) : Int)) (j := (n : Int)) (ea2 (ev2_of rfl rfl rfl) rfl) ⟨by omega, by omega⟩ ⟨by omega, by omega⟩, show ((n : Int) - ((i + 1 : Nat) : Int)).toNat = n - (i + 1) by omega, range_from]
    obtain ⟨T', ps2, v5, v6, e2, st2, g2, l2, p2, f2, up2⟩ := out_up hn hq hS (u1 := u1) (o := o) f (i + 1) T1 (acc ++ ps1) (some (.int (i : Int))) w6 (by omega) st1 g1 (by rw [List.length_append]; omega)
    refine ⟨T', ps1 ++ ps2, v5, v6, (from_cons i f ▸ forL_cons trivial rfl q1).trans e2, st2, by rw [← List.append_assoc]; exact g2, by rw [List.length_append, ht]; omega, fun p hp => ?_, fun p hp => ?_, List.pairwise_append.mpr ⟨up1, up2, fun a ha b hb => ?_⟩⟩
    · rcases List.mem_append.mp hp with h | h
      · exact p1 p h
      · exact p2 p h
    · rcases List.mem_append.mp hp with h | h
      · have := (f1 p h).1; omega
      · have := f2 p h; omega
    · have x := (f1 a ha).1
      have y := f2 b hb
      exact lt_first (by omega)
theorem spec_web_up {S : Store} {fl most : Nat} (hS : Fd S fl) (hm : most ≤ 9) : ∃ n ts S', f_law_web [.loc fl, .int (most : Int)] S = some (pw n ts, S') ∧ n ≤ most ∧ (∀ t ∈ ts, Ti n t) ∧ Up ts ∧ ts.length ≤ 36 ∧ Stp fl S S' := by
  obtain ⟨n, S1, e1, hn, _, st1⟩ := spec_draw_nat (m := ((most + 1 : Nat) : Int)) hS (by omega) (by omega)
  have q1 : (sSet 2 (evF f_law_draw (eaCons (evVar 0) (eaCons (ev2 oAdd (evVar 1) (evC (.int 1))) (eaNil))))) (startD NW [.loc fl, .int (most : Int)]) S = some (.nx [some (.loc fl), some (.int (most : Int)), some (.int (n : Int)), none, none, none, none] S1) := sSet_of (evF_of (ea2 rfl (ev2_of rfl rfl rfl)) e1)
  obtain ⟨o, S2, e2, _, _, st2⟩ := spec_draw_nat (m := 6) st1.fd (by decide) (by decide)
  have q2 : (sSet 3 (evF f_law_draw (eaCons (evVar 0) (eaCons (evC (.int 6)) (eaNil))))) [some (.loc fl), some (.int (most : Int)), some (.int (n : Int)), none, none, none, none] S1 = some (.nx [some (.loc fl), some (.int (most : Int)), some (.int (n : Int)), some (.int (o : Int)), none, none, none] S2) := sSet_of (evF_of (ea2 rfl rfl) e2)
  have q3 : (sSet 4 (evLst (eaNil))) [some (.loc fl), some (.int (most : Int)), some (.int (n : Int)), some (.int (o : Int)), none, none, none] S2 = some (.nx [some (.loc fl), some (.int (most : Int)), some (.int (n : Int)), some (.int (o : Int)), some (.loc S2.length), none, none] (S2 ++ [.lst []])) := rfl
  have lt := st2.fd.lt
  have ln := (st1.trans st2).len
  have tr := tri9 n (by omega)
  obtain ⟨S3, ps, v5, v6, e3, st3, g3, l3, p3, _, up⟩ := out_up (S0 := S) (fl := fl) (q := S2.length) (n := n) (by omega) lt ln (u1 := some (.int (most : Int))) (o := (o : Int)) n 0 (S2 ++ [.lst (([] : List (Int × Int)).map tp)]) [] none none (by omega) ((st1.trans st2).trans (Stp.app st2.fd)) get_last (by show 0 + _ ≤ _; omega)
  have it : (evRng (eaCons (evVar 2) (eaNil))) [some (.loc fl), some (.int (most : Int)), some (.int (n : Int)), some (.int (o : Int)), some (.loc S2.length), none, none] (S2 ++ [.lst []]) = some (from_ 0 n, S2 ++ [.lst []], fun _ => True) := by
    rw [evRng_one (j := (n : Int)) (ea1 rfl) ⟨by omega, by omega⟩, Int.toNat_natCast, rangeD_from]
  refine ⟨n, ps, S3, run_of ((sSeq_nx q1).trans ((sSeq_nx q2).trans ((sSeq_nx q3).trans ((sSeq_nx ((sFor_of it).trans e3)).trans (sRet_of (evTup_of (ea2 rfl (evF_of (ea1 rfl) ?_)) (by show 2 ≤ 1000; decide))))))) rfl, by omega, p3, up, by omega, st3⟩
  exact Pt.tuple_loc g3
/-! ### a great web drawn -/
noncomputable def m_law_great : Sv := sSeq (sSet 1 (ev2 oIx (evLst (eaCons (ev2 oAdd (evC (.int 10)) (evF f_law_draw (eaCons (evVar 0) (eaCons (evC (.int 90)) (eaNil))))) (eaCons (ev2 oAdd (evC (.int 100)) (evF f_law_draw (eaCons (evVar 0) (eaCons (evC (.int 900)) (eaNil))))) (eaCons (ev2 oSub (evC (.int 9999)) (evF f_law_draw (eaCons (evVar 0) (eaCons (evC (.int 3)) (eaNil))))) (eaNil))))) (evF f_law_draw (eaCons (evVar 0) (eaCons (evC (.int 3)) (eaNil)))))) (sSeq (sSet 2 (evLst (eaNil))) (sSeq (sFor (evRng (eaCons (evF f_law_draw (eaCons (evVar 0) (eaCons (evC (.int 9)) (eaNil)))) (eaNil))) (.nm 3) (sSeq (sSet 4 (evF f_law_draw (eaCons (evVar 0) (eaCons (evVar 1) (eaNil))))) (sSeq (sSet 5 (ev2 oIx (evLst (eaCons (evF f_law_draw (eaCons (evVar 0) (eaCons (evVar 1) (eaNil)))) (eaCons (ev2 oSub (evVar 1) (evC (.int 1))) (eaCons (ev2 oMod (ev2 oAdd (evVar 4) (evC (.int 1))) (evVar 1)) (eaNil))))) (evF f_law_draw (eaCons (evVar 0) (eaCons (evC (.int 3)) (eaNil)))))) (sSeq (sSet 6 (evTup (eaCons (evF (fInt2 fun i j => if j < i then j else i) (eaCons (evVar 4) (eaCons (evVar 5) (eaNil)))) (eaCons (evF (fInt2 fun i j => if j > i then j else i) (eaCons (evVar 4) (eaCons (evVar 5) (eaNil)))) (eaNil))))) (sIf (evAnd (evB (ev2 oNe (evVar 4) (evVar 5))) (evB (ev2 (oInD true) (evVar 6) (evVar 2)))) (sExpr (evM fAppend (evVar 2) (eaCons (evVar 6) (eaNil)))) (sSkip)))))) (sRet (evTup (eaCons (evVar 1) (eaCons (evF fTuple (eaCons (evF fSorted (eaCons (evVar 2) (eaNil))) (eaNil))) (eaNil)))))))
abbrev NLG : List Str := ["_law_feed_here", "_law_many", "_law_ties", "_law_k", "_law_one", "_law_other", "_law_tie"]
noncomputable def f_law_great : Fn := fRun m_law_great NLG 1
theorem ar_law_great : ∀ ds S r, f_law_great ds S = some r → ds.length = 1 := run_ar
theorem sem_law_great : ∀ ds S d S', f_law_great ds S = some (d, S') → Sem m_law_great NLG ds S d S' := run_sem
noncomputable abbrev grStep : Sv := sSeq (sSet 4 (evF f_law_draw (eaCons (evVar 0) (eaCons (evVar 1) (eaNil))))) (sSeq (sSet 5 (ev2 oIx (evLst (eaCons (evF f_law_draw (eaCons (evVar 0) (eaCons (evVar 1) (eaNil)))) (eaCons (ev2 oSub (evVar 1) (evC (.int 1))) (eaCons (ev2 oMod (ev2 oAdd (evVar 4) (evC (.int 1))) (evVar 1)) (eaNil))))) (evF f_law_draw (eaCons (evVar 0) (eaCons (evC (.int 3)) (eaNil)))))) (sSeq (sSet 6 (evTup (eaCons (evF (fInt2 fun i j => if j < i then j else i) (eaCons (evVar 4) (eaCons (evVar 5) (eaNil)))) (eaCons (evF (fInt2 fun i j => if j > i then j else i) (eaCons (evVar 4) (eaCons (evVar 5) (eaNil)))) (eaNil))))) (sIf (evAnd (evB (ev2 oNe (evVar 4) (evVar 5))) (evB (ev2 (oInD true) (evVar 6) (evVar 2)))) (sExpr (evM fAppend (evVar 2) (eaCons (evVar 6) (eaNil)))) (sSkip))))
theorem notin_tp {S : Store} {q : Nat} {t : Int × Int} {ts : List (Int × Int)} (h : S[q]? = some (.lst (ts.map tp))) : oInD true (tp t) (.loc q) S = some (.bl (!decide (t ∈ ts)), S) := by
  have one : ∀ t : Int × Int, toP S 8 (tp t) = some (Pt.tpP t) := fun t => rfl
  have m : ∀ ts : List (Int × Int), mapO (toP S 8) (ts.map tp) = some (ts.map Pt.tpP) := fun ts => by
    induction ts with
    | nil => rfl
    | cons u ts ih =>
      show ((toP S 8 (tp u)).bind fun y => (mapO (toP S 8) (ts.map tp)).map (y :: ·)) = _
      rw [ih]; rfl
  have s1 : ∀ t : Int × Int, SeqAt.shaped (Pt.tpP t) = true := fun t => rfl
  have eq : ∀ a b : Int × Int, PyData.eqv (Pt.tpP a) (Pt.tpP b) = decide (a = b) := fun a b => by
    have := Pm.eqv_ties [a] [b]
    simp only [List.map_cons, List.map_nil, PyData.eqvAll, Bool.and_true] at this
    rw [this]
    exact decide_eq_decide.mpr ⟨fun z => by injection z, fun z => by rw [z]⟩
  unfold oInD
  rw [itemsD_of (.inl h), Option.bind_some, m, Option.bind_some, one, Option.bind_some]
  have sh : ((ts.map Pt.tpP).all fun e => SeqAt.shaped e) = true := List.all_eq_true.mpr fun e he => by
    obtain ⟨x, _, rfl⟩ := List.mem_map.mp he
    rfl
  refine (if_pos ⟨s1 t, sh⟩).trans ?_
  have an : ((ts.map Pt.tpP).any fun e => PyData.eqv e (Pt.tpP t)) = decide (t ∈ ts) := by
    rw [List.any_map, Bool.eq_iff_iff, List.any_eq_true, decide_eq_true_eq]
    constructor
    · rintro ⟨x, hx, e⟩
      rw [Function.comp_apply, eq] at e
      rw [← of_decide_eq_true e]; exact hx
    · exact fun h => ⟨t, h, by rw [Function.comp_apply, eq, decide_eq_true rfl]⟩
  show some (D.bl (!((ts.map Pt.tpP).any fun e => PyData.eqv e (Pt.tpP t))), S) = _
  rw [an]
theorem gr_step {S0 T : Store} {fl q n k : Nat} {acc : List (Int × Int)} {u4 u5 u6 : Option D} (hq : fl < q) (hS : S0.length ≤ q) (h1 : 1 ≤ n) (h2 : n < 10000) (st : Stp fl S0 T) (g : T[q]? = some (.lst (acc.map tp))) (hl : acc.length ≤ 900) (nd : acc.Nodup) (hi : ∀ t ∈ acc, Ti n t) :
    ∃ (T' : Store) (acc' : List (Int × Int)) (v4 v5 v6 : Option D), grStep [some (.loc fl), some (.int (n : Int)), some (.loc q), some (.int (k : Int)), u4, u5, u6] T = some (.nx [some (.loc fl), some (.int (n : Int)), some (.loc q), some (.int (k : Int)), v4, v5, v6] T') ∧ Stp fl S0 T' ∧ T'[q]? = some (.lst (acc'.map tp)) ∧ acc'.length ≤ acc.length + 1 ∧ acc'.Nodup ∧ ∀ t ∈ acc', Ti n t := by
  obtain ⟨a, T1, e1, ha, _, st1⟩ := spec_draw_nat (m := (n : Int)) st.fd (by omega) (by omega)
  have q1 : (sSet 4 (evF f_law_draw (eaCons (evVar 0) (eaCons (evVar 1) (eaNil))))) [some (.loc fl), some (.int (n : Int)), some (.loc q), some (.int (k : Int)), u4, u5, u6] T = some (.nx [some (.loc fl), some (.int (n : Int)), some (.loc q), some (.int (k : Int)), some (.int (a : Int)), u5, u6] T1) := sSet_of (evF_of (ea2 rfl rfl) e1)
  obtain ⟨b, T2, e2, hb, _, st2⟩ := spec_draw_nat (m := (n : Int)) st1.fd (by omega) (by omega)
  have md : ∃ c : Nat, ((c : Int) < (n : Int)) ∧ ((a : Int) + 1).fmod (n : Int) = (c : Int) := by
    refine ⟨(a + 1) % n, ?_, ?_⟩
    · have := Nat.mod_lt (a + 1) (show 0 < n by omega)
      omega
    · rw [Int.fmod_eq_emod_of_nonneg _ (by omega)]; rfl
  obtain ⟨c, hc, ec⟩ := md
  obtain ⟨A, hA⟩ : ∃ A, A = T2 ++ [Cell.lst [.int (b : Int), .int ((n : Int) - 1), .int (c : Int)]] := ⟨_, rfl⟩
  have stA : Stp fl T2 A := by rw [hA]; exact Stp.app st2.fd
  have gA : A[T2.length]? = some (.lst [.int (b : Int), .int ((n : Int) - 1), .int (c : Int)]) := by rw [hA]; exact get_last
  have lt2 := st2.fd.lt
  obtain ⟨r, T3, e3, hr, _, st3⟩ := spec_draw_nat (m := 3) stA.fd (by decide) (by decide)
  have g3 : T3[T2.length]? = some (.lst [.int (b : Int), .int ((n : Int) - 1), .int (c : Int)]) := st3.get (by omega) gA
  obtain ⟨x, hx0, hxn, ex⟩ : ∃ x : Int, 0 ≤ x ∧ x < (n : Int) ∧ oIx (.loc T2.length) (.int ((r : Nat) : Int)) T3 = some (.int x, T3) := by
    have : r = 0 ∨ r = 1 ∨ r = 2 := by omega
    rcases this with h | h | h
    · subst h; exact ⟨(b : Int), by omega, hb, by rw [oIx_loc (.inl g3)]; rfl⟩
    · subst h; exact ⟨(n : Int) - 1, by omega, by omega, by rw [oIx_loc (.inl g3)]; rfl⟩
    · subst h; exact ⟨(c : Int), by omega, hc, by rw [oIx_loc (.inl g3)]; rfl⟩
  have q2 : (sSet 5 (ev2 oIx (evLst (eaCons (evF f_law_draw (eaCons (evVar 0) (eaCons (evVar 1) (eaNil)))) (eaCons (ev2 oSub (evVar 1) (evC (.int 1))) (eaCons (ev2 oMod (ev2 oAdd (evVar 4) (evC (.int 1))) (evVar 1)) (eaNil))))) (evF f_law_draw (eaCons (evVar 0) (eaCons (evC (.int 3)) (eaNil)))))) [some (.loc fl), some (.int (n : Int)), some (.loc q), some (.int (k : Int)), some (.int (a : Int)), u5, u6] T1 = some (.nx [some (.loc fl), some (.int (n : Int)), some (.loc q), some (.int (k : Int)), some (.int (a : Int)), some (.int x), u6] T3) := by
    refine sSet_of (ev2_of (S1 := A) (a := .loc T2.length) ?_ (evF_of (ea2 rfl rfl) e3) ex)
    rw [hA]
    refine evLst_of (ds := [.int (b : Int), .int ((n : Int) - 1), .int (c : Int)]) (eaCons_of (evF_of (ea2 rfl rfl) e2) (ea2 (ev2_of rfl rfl rfl) (ev2_of (ev2_of rfl rfl rfl) rfl ?_))) (by show 3 ≤ 1000; decide)
    rw [oMod_ints (by omega), ec]
  obtain ⟨t, ht⟩ : ∃ t : Int × Int, t = (if x < (a : Int) then x else (a : Int), if x > (a : Int) then x else (a : Int)) := ⟨_, rfl⟩
  have q3 : (sSet 6 (evTup (eaCons (evF (fInt2 fun i j => if j < i then j else i) (eaCons (evVar 4) (eaCons (evVar 5) (eaNil)))) (eaCons (evF (fInt2 fun i j => if j > i then j else i) (eaCons (evVar 4) (eaCons (evVar 5) (eaNil)))) (eaNil))))) [some (.loc fl), some (.int (n : Int)), some (.loc q), some (.int (k : Int)), some (.int (a : Int)), some (.int x), u6] T3 = some (.nx [some (.loc fl), some (.int (n : Int)), some (.loc q), some (.int (k : Int)), some (.int (a : Int)), some (.int x), some (tp t)] T3) := by
    rw [ht]
    exact sSet_of (evTup_of (ea2 (evF_of (ea2 rfl rfl) rfl) (evF_of (ea2 rfl rfl) rfl)) (by show 2 ≤ 1000; decide))
  have stE : Stp fl S0 T3 := (((st.trans st1).trans st2).trans stA).trans st3
  have gE : T3[q]? = some (.lst (acc.map tp)) := (((st1.trans st2).trans stA).trans st3).get (by omega) g
  have c1 : (evB (ev2 oNe (evVar 4) (evVar 5))) [some (.loc fl), some (.int (n : Int)), some (.loc q), some (.int (k : Int)), some (.int (a : Int)), some (.int x), some (tp t)] T3 = some (!decide ((a : Int) = x), T3) := evB_of (ev2_of rfl rfl rfl)
  have c2 : (evB (ev2 (oInD true) (evVar 6) (evVar 2))) [some (.loc fl), some (.int (n : Int)), some (.loc q), some (.int (k : Int)), some (.int (a : Int)), some (.int x), some (tp t)] T3 = some (!decide (t ∈ acc), T3) := evB_of (ev2_of rfl rfl (notin_tp gE))
  by_cases hax : (a : Int) = x
  · rw [decide_eq_true hax] at c1
    exact ⟨T3, acc, _, _, _, (sSeq_nx q1).trans ((sSeq_nx q2).trans ((sSeq_nx q3).trans ((sIf_f (evAnd_f c1)).trans rfl))), stE, gE, by omega, nd, hi⟩
  · rw [decide_eq_false hax] at c1
    by_cases hm : t ∈ acc
    · rw [decide_eq_true hm] at c2
      exact ⟨T3, acc, _, _, _, (sSeq_nx q1).trans ((sSeq_nx q2).trans ((sSeq_nx q3).trans ((sIf_f ((evAnd_t c1).trans c2)).trans rfl))), stE, gE, by omega, nd, hi⟩
    · rw [decide_eq_false hm] at c2
      have q4 := expr_append (o := evVar 2) (r := eaCons (evVar 6) eaNil) (σ := [some (.loc fl), some (.int (n : Int)), some (.loc q), some (.int (k : Int)), some (.int (a : Int)), some (.int x), some (tp t)]) (x := tp t) rfl (ea1 rfl) gE gE (by rw [List.length_map]; omega)
      rw [show acc.map tp ++ [tp t] = (acc ++ [t]).map tp from (List.map_append (f := tp) (l₁ := acc) (l₂ := [t])).symm] at q4
      refine ⟨T3.set q (.lst ((acc ++ [t]).map tp)), acc ++ [t], _, _, _, (sSeq_nx q1).trans ((sSeq_nx q2).trans ((sSeq_nx q3).trans ((sIf_t ((evAnd_t c1).trans c2)).trans q4))), stE.wr hq hS, get_set gE, by rw [List.length_append]; exact Nat.le_refl _, ?_, fun u hu => ?_⟩
      · refine List.nodup_append.mpr ⟨nd, by simp, fun u hu v hv e => ?_⟩
        rw [List.mem_singleton.mp hv] at e
        exact hm (by rw [← e]; exact hu)
      · rcases List.mem_append.mp hu with h | h
        · exact hi u h
        · rw [List.mem_singleton.mp h, ht]
          by_cases hlt : x < (a : Int)
          · rw [if_pos hlt, if_neg (by omega)]
            exact ⟨hx0, hlt, ha⟩
          · rw [if_neg hlt, if_pos (by omega)]
            exact ⟨by show (0 : Int) ≤ (a : Int); omega, by show (a : Int) < x; omega, hxn⟩
theorem gr_loop {S0 : Store} {fl q n : Nat} (hq : fl < q) (hS : S0.length ≤ q) (h1 : 1 ≤ n) (h2 : n < 10000) : ∀ (f i : Nat) (T : Store) (acc : List (Int × Int)) (u3 u4 u5 u6 : Option D), Stp fl S0 T → T[q]? = some (.lst (acc.map tp)) → acc.length + f ≤ 60 → acc.Nodup → (∀ t ∈ acc, Ti n t) →
    ∃ (T' : Store) (acc' : List (Int × Int)) (v3 v4 v5 v6 : Option D), forL (fun _ => True) (.nm 3) grStep (from_ i f) [some (.loc fl), some (.int (n : Int)), some (.loc q), u3, u4, u5, u6] T = some (.nx [some (.loc fl), some (.int (n : Int)), some (.loc q), v3, v4, v5, v6] T') ∧ Stp fl S0 T' ∧ T'[q]? = some (.lst (acc'.map tp)) ∧ acc'.length ≤ acc.length + f ∧ acc'.Nodup ∧ ∀ t ∈ acc', Ti n t
  | 0, i, T, acc, u3, u4, u5, u6, st, g, _, nd, hi => ⟨T, acc, u3, u4, u5, u6, forL_nil trivial, st, g, by omega, nd, hi⟩
  | f + 1, i, T, acc, u3, u4, u5, u6, st, g, hl, nd, hi => by
    obtain ⟨T1, a1, w4, w5, w6, e1, st1, g1, l1, nd1, hi1⟩ := gr_step (k := i) (u4 := u4) (u5 := u5) (u6 := u6) hq hS h1 h2 st g (by omega) nd hi
    obtain ⟨T2, a2, v3, v4, v5, v6, e2, st2, g2, l2, nd2, hi2⟩ := gr_loop hq hS h1 h2 f (i + 1) T1 a1 (some (.int (i : Int))) w4 w5 w6 st1 g1 (by omega) nd1 hi1
    exact ⟨T2, a2, v3, v4, v5, v6, (from_cons i f ▸ forL_cons trivial rfl e1).trans e2, st2, g2, by omega, nd2, hi2⟩
theorem spec_law_great {S : Store} {fl : Nat} (hS : Fd S fl) : ∃ n ts S', f_law_great [.loc fl] S = some (pw n ts, S') ∧ n < 10000 ∧ (∀ t ∈ ts, Ti n t) ∧ Up ts ∧ ts.length ≤ 36 ∧ Stp fl S S' := by
  obtain ⟨r1, T1, e1, h1, _, st1⟩ := spec_draw_nat (m := 90) hS (by decide) (by decide)
  obtain ⟨r2, T2, e2, h2, _, st2⟩ := spec_draw_nat (m := 900) st1.fd (by decide) (by decide)
  obtain ⟨r3, T3, e3, h3, _, st3⟩ := spec_draw_nat (m := 3) st2.fd (by decide) (by decide)
  obtain ⟨A, hA⟩ : ∃ A, A = T3 ++ [Cell.lst [.int (10 + (r1 : Int)), .int (100 + (r2 : Int)), .int (9999 - (r3 : Int))]] := ⟨_, rfl⟩
  have stA : Stp fl T3 A := by rw [hA]; exact Stp.app st3.fd
  have gA : A[T3.length]? = some (.lst [.int (10 + (r1 : Int)), .int (100 + (r2 : Int)), .int (9999 - (r3 : Int))]) := by rw [hA]; exact get_last
  have lt3 := st3.fd.lt
  obtain ⟨r, T4, e4, hr, _, st4⟩ := spec_draw_nat (m := 3) stA.fd (by decide) (by decide)
  have g4 : T4[T3.length]? = some (.lst [.int (10 + (r1 : Int)), .int (100 + (r2 : Int)), .int (9999 - (r3 : Int))]) := st4.get (by omega) gA
  obtain ⟨n, hn1, hn2, ex⟩ : ∃ n : Nat, 1 ≤ n ∧ n < 10000 ∧ oIx (.loc T3.length) (.int ((r : Nat) : Int)) T4 = some (.int (n : Int), T4) := by
    have : r = 0 ∨ r = 1 ∨ r = 2 := by omega
    rcases this with h | h | h
    · subst h
      refine ⟨10 + r1, by omega, by omega, ?_⟩
      rw [oIx_loc (.inl g4), show ((10 + r1 : Nat) : Int) = 10 + (r1 : Int) by omega]; rfl
    · subst h
      refine ⟨100 + r2, by omega, by omega, ?_⟩
      rw [oIx_loc (.inl g4), show ((100 + r2 : Nat) : Int) = 100 + (r2 : Int) by omega]; rfl
    · subst h
      refine ⟨9999 - r3, by omega, by omega, ?_⟩
      rw [oIx_loc (.inl g4), show ((9999 - r3 : Nat) : Int) = 9999 - (r3 : Int) by omega]; rfl
  have q1 : (sSet 1 (ev2 oIx (evLst (eaCons (ev2 oAdd (evC (.int 10)) (evF f_law_draw (eaCons (evVar 0) (eaCons (evC (.int 90)) (eaNil))))) (eaCons (ev2 oAdd (evC (.int 100)) (evF f_law_draw (eaCons (evVar 0) (eaCons (evC (.int 900)) (eaNil))))) (eaCons (ev2 oSub (evC (.int 9999)) (evF f_law_draw (eaCons (evVar 0) (eaCons (evC (.int 3)) (eaNil))))) (eaNil))))) (evF f_law_draw (eaCons (evVar 0) (eaCons (evC (.int 3)) (eaNil)))))) (startD NLG [.loc fl]) S = some (.nx [some (.loc fl), some (.int (n : Int)), none, none, none, none, none] T4) := by
    refine sSet_of (ev2_of (S1 := A) (a := .loc T3.length) ?_ (evF_of (ea2 rfl rfl) e4) ex)
    rw [hA]
    exact evLst_of (ds := [.int (10 + (r1 : Int)), .int (100 + (r2 : Int)), .int (9999 - (r3 : Int))]) (eaCons_of (ev2_of rfl (evF_of (ea2 rfl rfl) e1) rfl) (ea2 (ev2_of rfl (evF_of (ea2 rfl rfl) e2) rfl) (ev2_of rfl (evF_of (ea2 rfl rfl) e3) rfl))) (by show 3 ≤ 1000; decide)
  have st5 := (((st1.trans st2).trans st3).trans stA).trans st4
  have q2 : (sSet 2 (evLst (eaNil))) [some (.loc fl), some (.int (n : Int)), none, none, none, none, none] T4 = some (.nx [some (.loc fl), some (.int (n : Int)), some (.loc T4.length), none, none, none, none] (T4 ++ [.lst (([] : List (Int × Int)).map tp)])) := rfl
  have lt4 := st5.fd.lt
  obtain ⟨m, T6, e6, hm, l6, st6⟩ := spec_draw_nat (S := T4 ++ [.lst (([] : List (Int × Int)).map tp)]) (m := 9) st5.fd.app (by decide) (by decide)
  have g6 : T6[T4.length]? = some (.lst (([] : List (Int × Int)).map tp)) := st6.get (by omega) get_last
  have stB : Stp fl S T6 := (st5.trans (Stp.app st5.fd)).trans st6
  obtain ⟨T7, ts, v3, v4, v5, v6, e7, st7, g7, l7, nd, hi⟩ := gr_loop (S0 := S) (q := T4.length) lt4 st5.len hn1 hn2 m 0 T6 [] none none none none stB g6 (by show 0 + _ ≤ _; omega) List.nodup_nil (fun t ht => by cases ht)
  have it : (evRng (eaCons (evF f_law_draw (eaCons (evVar 0) (eaCons (evC (.int 9)) (eaNil)))) (eaNil))) [some (.loc fl), some (.int (n : Int)), some (.loc T4.length), none, none, none, none] (T4 ++ [.lst (([] : List (Int × Int)).map tp)]) = some (from_ 0 m, T6, fun _ => True) := by
    rw [evRng_one (j := (m : Int)) (ea1 (evF_of (ea2 rfl rfl) e6)) ⟨by omega, by omega⟩, Int.toNat_natCast, rangeD_from]
  have len0 : ([] : List (Int × Int)).length = 0 := rfl
  have so : fSorted [.loc T4.length] T7 = some (.loc T7.length, T7 ++ [.lst ((sortP ts).map tp)]) := Pt.sorted_of (by rw [itemsD_of (.inl g7)]) ⟨nd, by omega⟩
  have pm := sortP_perm ts
  refine ⟨n, sortP ts, T7 ++ [.lst ((sortP ts).map tp)], run_of ((sSeq_nx q1).trans ((sSeq_nx q2).trans ((sSeq_nx ((sFor_of it).trans e7)).trans (sRet_of (evTup_of (ea2 rfl (evF_of (ea1 (evF_of (ea1 rfl) so)) (Pt.tuple_loc get_last))) (by show 2 ≤ 1000; decide)))))) rfl, hn2, fun t ht => hi t (pm.mem_iff.mp ht), sortP_up nd, by rw [pm.length_eq]; omega, st7.trans (Stp.app st7.fd)⟩
end Rd
set_option maxHeartbeats 1000000
namespace Rd
open PySem L2 Q2
open Pf hiding NB m_law_bent f_law_bent f_law_odd f_law_feed spec_feed
open Pw hiding Out Out.pre run_ways out_odd run_bent P_bent fr_law_bent spec_bent f_law_bent m_law f_law NL Gd Gd.mono LInv lookStep look_one
open Px (tp pw range_from)
open Pk (Ti)
open Pm (from_cons f_law_web)
open Ss (ltP Up)
open Pt (tpP pwP dat_ties dat_web)
/-! ### webs and texts shown -/
theorem num_low {z : Int} (h0 : 0 ≤ z) (h : z < 10000) : ∀ c ∈ (num z).cps.toList, c < 16 ^ 8 := fun c hc => by
  have := ((num_ok h0 h).2.2.1 c hc).2
  exact Nat.lt_of_le_of_lt this (by decide)
theorem tie_low {t : Int × Int} (h : Sml4 t) : ∀ c ∈ (tieS t).cps.toList, c < 16 ^ 8 := fun c m => by
  obtain ⟨h1, h2, h3, h4⟩ := h
  have m : c ∈ (num t.1 ++ ("-" : Str) ++ num t.2).cps.toList := m
  rw [Str.cps_append, Str.cps_append, Array.toList_append, Array.toList_append, t_dash] at m
  rcases List.mem_append.mp m with m | m
  · rcases List.mem_append.mp m with m | m
    · exact num_low h1 h2 c m
    · rw [List.mem_singleton.mp m]; decide
  · exact num_low h3 h4 c m
theorem join_low {s : Nat} (hs : s < 16 ^ 8) : ∀ ws : List Str, (∀ w ∈ ws, ∀ c ∈ w.cps.toList, c < 16 ^ 8) → ∀ c ∈ (Str.join ⟨#[s]⟩ ws).cps.toList, c < 16 ^ 8
  | [], _, c, m => by cases m
  | [w], h, c, m => h w List.mem_cons_self c m
  | w :: v :: r, h, c, m => by
    rw [join_two] at m
    rcases List.mem_append.mp m with m | m
    · exact h w List.mem_cons_self c m
    · rcases List.mem_append.mp m with m | m
      · rw [List.mem_singleton.mp m]; exact hs
      · exact join_low hs (v :: r) (fun x hx => h x (List.mem_cons_of_mem _ hx)) c m
theorem text_short {n : Nat} {ts : List (Int × Int)} (hn : n < 10000) (h : ∀ t ∈ ts, Sml4 t) (hl : ts.length ≤ 36) : (textS n ts).length ≤ 5 + 10 * ts.length := by
  have := StrLaws.join_length_le " " (wordsS n ts)
  have e : textS n ts = Str.join " " (wordsS n ts) := StrLaws.glued_eq_join _ _
  rw [e]
  have a := sum_ties ts h
  have b := num_len (z := (n : Int)) (by omega) (by omega)
  have c : (" " : Str).length = 1 := by rw [t_gap]; rfl
  rw [c, List.map_cons, List.sum_cons, List.length_cons, List.length_map] at this
  omega
theorem repr_text {n : Nat} {ts : List (Int × Int)} {S : Store} (hn : n < 10000) (h : ∀ t ∈ ts, Sml4 t) (hl : ts.length ≤ 36) : fRepr [.str (textS n ts)] S = some (.str (PyData.str (textS n ts)).shown, S) := by
  have sh := text_short hn h hl
  have low : ∀ c ∈ (textS n ts).cps.toList, c < 16 ^ 8 := by
    have e : textS n ts = Str.join ⟨#[32]⟩ (wordsS n ts) := by
      show Builtin.Str.glued " " (wordsS n ts) = _
      rw [StrLaws.glued_eq_join, t_gap]
    rw [e]
    refine join_low (by decide) _ fun w hw => ?_
    rcases List.mem_cons.mp hw with rfl | hw
    · exact num_low (by omega) (by omega)
    · obtain ⟨t, ht, rfl⟩ := List.mem_map.mp hw
      exact tie_low (h t ht)
  have rp : Rp 0 8000 (.str (textS n ts)) := by
    refine ⟨by simp only [PyData.showable], by simp only [PyData.hasDict], by simp only [PyData.depth]; omega, ?_, ?_⟩
    · simp only [PyData.leavesShort]
      exact List.all_eq_true.mpr fun c hc => decide_eq_true (low c hc)
    · simp only [PyData.bulk]
      show (textS n ts).length ≤ 8000
      omega
  exact if_pos (rp.ok (by decide) (by decide))
theorem repr_web {n : Nat} {ts : List (Int × Int)} {S : Store} (hn : n < 10000) (h : ∀ t ∈ ts, Sml4 t) (hl : ts.length ≤ 36) : fRepr [pw n ts] S = some (.str (pwP n ts).shown, S) := by
  have d : Dat S (fun _ => False) 10000 (pw n ts) (pwP n ts) := dat_web (by omega) fun t ht => by
    obtain ⟨a, b, c, e⟩ := h t ht
    omega
  obtain ⟨b1, b2⟩ := Pm.ties_bulk ts
  refine d.repr (Nat.lt_of_le_of_lt (show 10000 ≤ 2 ^ 200 by decide) (Nat.pow_lt_pow_right (by decide) (by decide))) ?_ ?_
  · simp only [PyData.depth, PyData.depthAll]; omega
  · simp only [PyData.bulk, PyData.bulkAll]; omega
/-! ### the law of webs written and read -/
theorem if_t {t : EvT} {ma mb : Ev} {σ : Sg} {S S1 : Store} (h : t σ S = some (true, S1)) : evIf t ma mb σ S = ma σ S1 := by
  unfold evIf; rw [h]; rfl
theorem if_f {t : EvT} {ma mb : Ev} {σ : Sg} {S S1 : Store} (h : t σ S = some (false, S1)) : evIf t ma mb σ S = mb σ S1 := by
  unfold evIf; rw [h]; rfl
noncomputable abbrev lawStep : Sv := sSeq (sSet 3 (evIf (evB (ev2 oLt (evVar 2) (evC (.int 3)))) (evF f_law_web (eaCons (evVar 1) (eaCons (evC (.int 9)) (eaNil)))) (evF f_law_great (eaCons (evVar 1) (eaNil))))) (sSeq (sSet 4 (evF fRepr (eaCons (evVar 3) (eaNil)))) (sSeq (sSet 5 (evF f_law_text (eaCons (evVar 3) (eaNil)))) (sSeq (sSet 6 (evF f_read_web (eaCons (evVar 5) (eaNil)))) (sSeq (sIf (evOr (evB (ev2 oNe (evF fRepr (eaCons (evVar 6) (eaNil))) (evVar 4))) (evOr (evB (ev2 oNe (evF fRepr (eaCons (evF f_web_text (eaCons (evVar 6) (eaNil))) (eaNil))) (evF fRepr (eaCons (evVar 5) (eaNil))))) (evB (ev2 oNe (evF fRepr (eaCons (evVar 6) (eaNil))) (evVar 4))))) (sRet (evC (.bl false))) (sSkip)) (sIf (evAnd (evB (ev2 oLt (evVar 2) (evC (.int 3)))) (evOr (evB (ev2 oNe (evF fRepr (eaCons (evF f_web_text (eaCons (evVar 3) (eaNil))) (eaNil))) (evF fRepr (eaCons (evVar 5) (eaNil))))) (evB (ev2 oNe (evF fRepr (eaCons (evVar 3) (eaNil))) (evVar 4))))) (sRet (evC (.bl false))) (sSkip))))))
theorem law_one {S0 S : Store} {fl k : Nat} {u0 u3 u4 u5 u6 : Option D} (st : Stp fl S0 S) : ∃ S' v3 v4 v5 v6, lawStep [u0, some (.loc fl), some (.int (k : Int)), u3, u4, u5, u6] S = some (.nx [u0, some (.loc fl), some (.int (k : Int)), v3, v4, v5, v6] S') ∧ Stp fl S0 S' := by
  obtain ⟨n, ts, S', q1, hn, hts, up, hl, st1⟩ : ∃ (n : Nat) (ts : List (Int × Int)) (S' : Store), (sSet 3 (evIf (evB (ev2 oLt (evVar 2) (evC (.int 3)))) (evF f_law_web (eaCons (evVar 1) (eaCons (evC (.int 9)) (eaNil)))) (evF f_law_great (eaCons (evVar 1) (eaNil))))) [u0, some (.loc fl), some (.int (k : Int)), u3, u4, u5, u6] S = some (.nx [u0, some (.loc fl), some (.int (k : Int)), some (pw n ts), u4, u5, u6] S') ∧ n < 10000 ∧ (∀ t ∈ ts, Ti n t) ∧ Up ts ∧ ts.length ≤ 36 ∧ Stp fl S S' := by
    have c : evB (ev2 oLt (evVar 2) (evC (.int 3))) [u0, some (.loc fl), some (.int (k : Int)), u3, u4, u5, u6] S = some (decide ((k : Int) < 3), S) := evB_of (ev2_of rfl rfl rfl)
    by_cases hk : (k : Int) < 3
    · rw [decide_eq_true hk] at c
      obtain ⟨n, ts, S', e, hn, hts, up, hl, s⟩ := spec_web_up (most := 9) st.fd (by decide)
      exact ⟨n, ts, S', sSet_of ((if_t c).trans (evF_of (ea2 rfl rfl) e)), by omega, hts, up, hl, s⟩
    · rw [decide_eq_false hk] at c
      obtain ⟨n, ts, S', e, hn, hts, up, hl, s⟩ := spec_law_great st.fd
      exact ⟨n, ts, S', sSet_of ((if_f c).trans (evF_of (ea1 rfl) e)), hn, hts, up, hl, s⟩
  have hs : ∀ t ∈ ts, Sml4 t := fun t ht => ti_sml (by omega) (hts t ht)
  have rw1 := fun S => repr_web (S := S) hn hs hl
  have rt := fun S => repr_text (S := S) hn hs hl
  obtain ⟨W, hW⟩ : ∃ W, W = (pwP n ts).shown := ⟨_, rfl⟩
  obtain ⟨X, hX⟩ : ∃ X, X = (PyData.str (textS n ts)).shown := ⟨_, rfl⟩
  rw [← hW] at rw1
  rw [← hX] at rt
  have q2 : (sSet 4 (evF fRepr (eaCons (evVar 3) (eaNil)))) [u0, some (.loc fl), some (.int (k : Int)), some (pw n ts), u4, u5, u6] S' = some (.nx [u0, some (.loc fl), some (.int (k : Int)), some (pw n ts), some (.str W), u5, u6] S') := sSet_of (evF_of (ea1 rfl) (rw1 _))
  have q3 : (sSet 5 (evF f_law_text (eaCons (evVar 3) (eaNil)))) [u0, some (.loc fl), some (.int (k : Int)), some (pw n ts), some (.str W), u5, u6] S' = some (.nx [u0, some (.loc fl), some (.int (k : Int)), some (pw n ts), some (.str W), some (.str (textS n ts)), u6] S') := sSet_of (evF_of (ea1 rfl) (spec_law_text hn hts (by omega)))
  have q4 : (sSet 6 (evF f_read_web (eaCons (evVar 5) (eaNil)))) [u0, some (.loc fl), some (.int (k : Int)), some (pw n ts), some (.str W), some (.str (textS n ts)), u6] S' = some (.nx [u0, some (.loc fl), some (.int (k : Int)), some (pw n ts), some (.str W), some (.str (textS n ts)), some (pw n ts)] S') := sSet_of (evF_of (ea1 rfl) (spec_read_web hn hts up (by omega)))
  have wt := spec_web_text (S := S') hn hts (by omega)
  have a1 : ∀ i, i = 3 ∨ i = 6 → evB (ev2 oNe (evF fRepr (eaCons (evVar i) (eaNil))) (evVar 4)) [u0, some (.loc fl), some (.int (k : Int)), some (pw n ts), some (.str W), some (.str (textS n ts)), some (pw n ts)] S' = some (false, S') := fun i hi => by
    rcases hi with rfl | rfl
    · exact evB_of (ev2_of (evF_of (ea1 rfl) (rw1 _)) rfl Pt.ne_str)
    · exact evB_of (ev2_of (evF_of (ea1 rfl) (rw1 _)) rfl Pt.ne_str)
  have a2 : ∀ i, i = 3 ∨ i = 6 → evB (ev2 oNe (evF fRepr (eaCons (evF f_web_text (eaCons (evVar i) (eaNil))) (eaNil))) (evF fRepr (eaCons (evVar 5) (eaNil)))) [u0, some (.loc fl), some (.int (k : Int)), some (pw n ts), some (.str W), some (.str (textS n ts)), some (pw n ts)] S' = some (false, S') := fun i hi => by
    rcases hi with rfl | rfl
    · exact evB_of (ev2_of (evF_of (ea1 (evF_of (ea1 rfl) wt)) (rt _)) (evF_of (ea1 rfl) (rt _)) Pt.ne_str)
    · exact evB_of (ev2_of (evF_of (ea1 (evF_of (ea1 rfl) wt)) (rt _)) (evF_of (ea1 rfl) (rt _)) Pt.ne_str)
  have i1 : (sIf (evOr (evB (ev2 oNe (evF fRepr (eaCons (evVar 6) (eaNil))) (evVar 4))) (evOr (evB (ev2 oNe (evF fRepr (eaCons (evF f_web_text (eaCons (evVar 6) (eaNil))) (eaNil))) (evF fRepr (eaCons (evVar 5) (eaNil))))) (evB (ev2 oNe (evF fRepr (eaCons (evVar 6) (eaNil))) (evVar 4))))) (sRet (evC (.bl false))) sSkip) [u0, some (.loc fl), some (.int (k : Int)), some (pw n ts), some (.str W), some (.str (textS n ts)), some (pw n ts)] S' = some (.nx [u0, some (.loc fl), some (.int (k : Int)), some (pw n ts), some (.str W), some (.str (textS n ts)), some (pw n ts)] S') := (sIf_f ((evOr_f (a1 6 (.inr rfl))).trans ((evOr_f (a2 6 (.inr rfl))).trans (a1 6 (.inr rfl))))).trans rfl
  have i2 : (sIf (evAnd (evB (ev2 oLt (evVar 2) (evC (.int 3)))) (evOr (evB (ev2 oNe (evF fRepr (eaCons (evF f_web_text (eaCons (evVar 3) (eaNil))) (eaNil))) (evF fRepr (eaCons (evVar 5) (eaNil))))) (evB (ev2 oNe (evF fRepr (eaCons (evVar 3) (eaNil))) (evVar 4))))) (sRet (evC (.bl false))) sSkip) [u0, some (.loc fl), some (.int (k : Int)), some (pw n ts), some (.str W), some (.str (textS n ts)), some (pw n ts)] S' = some (.nx [u0, some (.loc fl), some (.int (k : Int)), some (pw n ts), some (.str W), some (.str (textS n ts)), some (pw n ts)] S') := by
    have c : evB (ev2 oLt (evVar 2) (evC (.int 3))) [u0, some (.loc fl), some (.int (k : Int)), some (pw n ts), some (.str W), some (.str (textS n ts)), some (pw n ts)] S' = some (decide ((k : Int) < 3), S') := evB_of (ev2_of rfl rfl rfl)
    by_cases hk : (k : Int) < 3
    · rw [decide_eq_true hk] at c
      exact (sIf_f ((evAnd_t c).trans ((evOr_f (a2 3 (.inl rfl))).trans (a1 3 (.inl rfl))))).trans rfl
    · rw [decide_eq_false hk] at c
      exact (sIf_f (evAnd_f c)).trans rfl
  exact ⟨S', _, _, _, _, (sSeq_nx q1).trans ((sSeq_nx q2).trans ((sSeq_nx q3).trans ((sSeq_nx q4).trans ((sSeq_nx i1).trans i2)))), st.trans st1⟩
theorem law_loop {S0 : Store} {fl : Nat} {u0 : Option D} : ∀ (f i : Nat) (S : Store) (u2 u3 u4 u5 u6 : Option D), Stp fl S0 S → ∃ S' v2 v3 v4 v5 v6, forL (fun _ => True) (.nm 2) lawStep (from_ i f) [u0, some (.loc fl), u2, u3, u4, u5, u6] S = some (.nx [u0, some (.loc fl), v2, v3, v4, v5, v6] S') ∧ Stp fl S0 S'
  | 0, i, S, u2, u3, u4, u5, u6, st => ⟨S, u2, u3, u4, u5, u6, forL_nil trivial, st⟩
  | f + 1, i, S, u2, u3, u4, u5, u6, st => by
    obtain ⟨S1, a3, a4, a5, a6, e1, st1⟩ := law_one (k := i) (u0 := u0) (u3 := u3) (u4 := u4) (u5 := u5) (u6 := u6) st
    obtain ⟨S', v2, v3, v4, v5, v6, e2, st2⟩ := law_loop (u0 := u0) f (i + 1) S1 (some (.int (i : Int))) a3 a4 a5 a6 st1
    exact ⟨S', v2, v3, v4, v5, v6, (from_cons i f ▸ forL_cons trivial rfl e1).trans e2, st2⟩
noncomputable def f_law : Fn := fLaw
noncomputable def m_law : Sv := sSeq (sSet 1 (evF f_law_feed (eaCons (evVar 0) (eaNil)))) (sSeq (sFor (evRng (eaCons (evC (.int 6)) (eaNil))) (.nm 2) (sSeq (sSet 3 (evIf (evB (ev2 oLt (evVar 2) (evC (.int 3)))) (evF f_law_web (eaCons (evVar 1) (eaCons (evC (.int 9)) (eaNil)))) (evF f_law_great (eaCons (evVar 1) (eaNil))))) (sSeq (sSet 4 (evF fRepr (eaCons (evVar 3) (eaNil)))) (sSeq (sSet 5 (evF f_law_text (eaCons (evVar 3) (eaNil)))) (sSeq (sSet 6 (evF f_read_web (eaCons (evVar 5) (eaNil)))) (sSeq (sIf (evOr (evB (ev2 oNe (evF fRepr (eaCons (evVar 6) (eaNil))) (evVar 4))) (evOr (evB (ev2 oNe (evF fRepr (eaCons (evF f_web_text (eaCons (evVar 6) (eaNil))) (eaNil))) (evF fRepr (eaCons (evVar 5) (eaNil))))) (evB (ev2 oNe (evF fRepr (eaCons (evVar 6) (eaNil))) (evVar 4))))) (sRet (evC (.bl false))) (sSkip)) (sIf (evAnd (evB (ev2 oLt (evVar 2) (evC (.int 3)))) (evOr (evB (ev2 oNe (evF fRepr (eaCons (evF f_web_text (eaCons (evVar 3) (eaNil))) (eaNil))) (evF fRepr (eaCons (evVar 5) (eaNil))))) (evB (ev2 oNe (evF fRepr (eaCons (evVar 3) (eaNil))) (evVar 4))))) (sRet (evC (.bl false))) (sSkip)))))))) (sRet (evC (.bl true))))
abbrev NL05 : List Str := ["_law_script", "_law_feed_here", "_law_k", "_law_web_here", "_law_kept", "_law_text_here", "_law_told"]
theorem ar_law : ∀ ds S r, f_law ds S = some r → ds.length = 1 := fun ds S r e => by
  obtain ⟨ns, rfl, _⟩ := fLaw_some (d := r.1) (S' := r.2) e
  rfl
theorem sem_law : ∀ ds S d S', f_law ds S = some (d, S') → Sem m_law NL05 ds S d S' := fun ds S d S' e => by
  obtain ⟨ns, rfl, rfl, hl, rfl, rfl⟩ := fLaw_some e
  obtain ⟨fl, S1, e1, l1, f1, m1⟩ := spec_feed (S := [.ro (zs ns)]) (n := 0) (ns := ns) rfl
  have q1 : (sSet 1 (evF f_law_feed (eaCons (evVar 0) (eaNil)))) (startD NL05 [.loc 0]) [.ro (zs ns)] = some (.nx [some (.loc 0), some (.loc fl), none, none, none, none, none] S1) := sSet_of (evF_of (ea1 rfl) e1)
  obtain ⟨S', v2, v3, v4, v5, v6, e2, st2⟩ := law_loop (u0 := some (.loc 0)) 6 0 S1 none none none none none (Stp.refl f1)
  have it6 : evRng (eaCons (evC (.int 6)) (eaNil)) [some (.loc 0), some (.loc fl), none, none, none, none, none] S1 = some (from_ 0 6, S1, fun _ => True) := by
    rw [evRng_one (j := 6) (ea1 rfl) ⟨by decide, by decide⟩]; rfl
  have run : m_law (startD NL05 [.loc 0]) [.ro (zs ns)] = some (.rt (.bl true) S') :=
    (sSeq_nx q1).trans ((sSeq_nx ((sFor_of it6).trans e2)).trans rfl)
  have sm : Sm fl [.ro (zs ns)] S' := m1.trans st2.toSm
  have kps : Keeps [.ro (zs ns)] S' := Stp.keeps sm l1
  have := Sem.drop run rfl kps
  rw [keep_take sm.len (fun i hi => sm.same i (by have : ([Cell.ro (zs ns)] : Store).length = 1 := rfl; omega) hi)] at this
  exact this
end Rd
set_option maxHeartbeats 4000000
namespace K05
open PySem L2 Q2 Rd
open Pm (f_law_web m_law_web ar_law_web sem_law_web)
open Pw (f_law_feed m_law_feed ar_law_feed sem_law_feed f_law_draw m_law_draw ar_law_draw sem_law_draw)
def top (i : Nat) : Stmt := PySem.Challenge.pw_pairtally_k05_webs_written_and_read.main.body.getD i (.Pass ⟨0, 0, 0, 0⟩)
abbrev s_web_text : Stmt := top 6
theorem sc_web_text : FnScope ["web", "i", "j"] ["web"] (defScope s_web_text) := ⟨rfl, rfl, rfl, by decide +kernel, rfl, by decide +kernel, by decide +kernel⟩
abbrev s_read_web : Stmt := top 7
theorem sc_read_web : FnScope ["text", "words", "many", "ties", "place", "tie"] ["text"] (defScope s_read_web) := ⟨rfl, rfl, rfl, by decide +kernel, rfl, by decide +kernel, by decide +kernel⟩
abbrev s_read_number : Stmt := top 8
theorem sc_read_number : FnScope ["word", "most", "sign"] ["word", "most"] (defScope s_read_number) := ⟨rfl, rfl, rfl, by decide +kernel, rfl, by decide +kernel, by decide +kernel⟩
abbrev s_read_tie : Stmt := top 9
theorem sc_read_tie : FnScope ["word", "many", "pair"] ["word", "many"] (defScope s_read_tie) := ⟨rfl, rfl, rfl, by decide +kernel, rfl, by decide +kernel, by decide +kernel⟩
abbrev s_read_pair : Stmt := top 10
theorem sc_read_pair : FnScope ["word", "most", "numbers", "piece"] ["word", "most"] (defScope s_read_pair) := ⟨rfl, rfl, rfl, by decide +kernel, rfl, by decide +kernel, by decide +kernel⟩
abbrev s_law_feed : Stmt := top 12
theorem sc_law_feed : FnScope ["_law_script"] ["_law_script"] (defScope s_law_feed) := ⟨rfl, rfl, rfl, by decide +kernel, rfl, by decide +kernel, by decide +kernel⟩
abbrev s_law_draw : Stmt := top 13
theorem sc_law_draw : FnScope ["_law_feed_here", "_law_many", "_law_found", "_law_spot", "_law_cell", "_law_mixed"] ["_law_feed_here", "_law_many"] (defScope s_law_draw) := ⟨rfl, rfl, rfl, by decide +kernel, rfl, by decide +kernel, by decide +kernel⟩
abbrev s_law_web : Stmt := top 14
theorem sc_law_web : FnScope ["_law_feed_here", "_law_most", "_law_many", "_law_often", "_law_ties", "_law_i", "_law_j"] ["_law_feed_here", "_law_most"] (defScope s_law_web) := ⟨rfl, rfl, rfl, by decide +kernel, rfl, by decide +kernel, by decide +kernel⟩
abbrev s_law_text : Stmt := top 15
theorem sc_law_text : FnScope ["_law_web_here", "_law_i", "_law_j"] ["_law_web_here"] (defScope s_law_text) := ⟨rfl, rfl, rfl, by decide +kernel, rfl, by decide +kernel, by decide +kernel⟩
abbrev s_law_great : Stmt := top 16
theorem sc_law_great : FnScope ["_law_feed_here", "_law_many", "_law_ties", "_law_k", "_law_one", "_law_other", "_law_tie"] ["_law_feed_here"] (defScope s_law_great) := ⟨rfl, rfl, rfl, by decide +kernel, rfl, by decide +kernel, by decide +kernel⟩
abbrev s_law : Stmt := top 17
theorem sc_law : FnScope ["_law_script", "_law_feed_here", "_law_k", "_law_web_here", "_law_kept", "_law_text_here", "_law_told"] ["_law_script"] (defScope s_law) := ⟨rfl, rfl, rfl, by decide +kernel, rfl, by decide +kernel, by decide +kernel⟩
section
variable {P : Program} {w : World} {K : PySem.W.Frag} {mg : Str → Option Value} {base : Heap} {k : Nat}
theorem t_web_text {f c : Addr} (z_str : mg "str" = none) (A : Around) (outer : List Env) (s : Shared) (H : Hp) (E : XK) (hr : Room k (A.deeper (PyProof.Rows.envOfC "web_text" (defScope s_web_text) s.heap.objs.size f (.ref c)))) :
    QSs (cxOf CX0 P w K mg base ["web", "i", "j"] "web_text" (defScope s_web_text) f (.ref c) A outer s H E).nox (defBody s_web_text) m_web_text :=
  qss_one (q_ret (q_join (q_str) (q_add (q_lst (q_cons (q_strI z_str (q_cons (q_ix (q_var 0) (q_int)) (q_nil))) (q_nil))) (q_lc (own := [("i", 1), ("j", 2)]) rfl sc_web_text.nd (q_iseq (q_ix (q_var 0) (q_int))) (blkOk_by (N := ["web", "i", "j"]) (sc := defScope s_web_text) (own := [("i", 1), ("j", 2)]) (by decide +kernel)) (fun _ _ _ _ _ => q_gtup rfl (q_gcons (q_gname 1 sc_web_text.nd) (q_gcons (q_gname 2 sc_web_text.nd) (q_gnil)))) (fun _ _ _ _ _ => q_ifs0) (fun _ _ _ _ _ => q_nums (q_var 1) (q_var 2)) (by decide)))))
theorem t_read_web {f c : Addr} (z_range : mg "range" = none) (z_len : mg "len" = none) (z_tuple : mg "tuple" = none) (Z_MOST_FIGURES : GInt mg "MOST_FIGURES" 4) (G_read_number : DefOk P w K mg base k "read_number" f_read_number) (G_read_tie : DefOk P w K mg base k "read_tie" f_read_tie) (A : Around) (outer : List Env) (s : Shared) (H : Hp) (E : XK) (hr : Room k (A.deeper (PyProof.Rows.envOfC "read_web" (defScope s_read_web) s.heap.objs.size f (.ref c)))) :
    QSs (cxOf CX0 P w K mg base ["text", "words", "many", "ties", "place", "tie"] "read_web" (defScope s_read_web) f (.ref c) A outer s H E).nox (defBody s_read_web) m_read_web :=
  qss_cons (q_set 1 (q_split (q_var 0) (q_str)) sc_read_web.nd) (qss_cons (q_set 2 (q_call G_read_number hr (q_cons (q_ix (q_var 1) (q_int)) (q_cons (q_gint Z_MOST_FIGURES) (q_nil)))) sc_read_web.nd) (qss_cons (q_sif (q_tisN (q_var 2) (q_non)) (qss_one (qs_dead)) (qss_nil)) (qss_cons (q_set 3 (q_lst (q_nil)) sc_read_web.nd) (qss_cons (q_for PassesOwn.never rfl (q_irange2 z_range (q_cons (q_int) (q_cons (q_len z_len (q_cons (q_var 1) (q_nil))) (q_nil))) (h1 := len2)) (q_gname 4 sc_read_web.nd) (qss_cons (q_set 5 (q_call G_read_tie hr (q_cons (q_ix (q_var 1) (q_var 4)) (q_cons (q_var 2) (q_nil)))) sc_read_web.nd) (qss_cons (q_sif (QW.qt (q_or (q_tisN (q_var 5) (q_non)) (q_or1 (QW.qt (q_and (q_ttru (q_var 3)) (q_and1 (q_tle2 hr (q_var 5) (q_ix (q_var 3) (q_neg (q_int)))))))))) (qss_one (qs_dead)) (qss_nil)) (qss_one (q_expr (q_append (q_var 3) (q_cons (q_var 5) (q_nil)))))))) (qss_one (q_ret (q_tup (q_cons (q_var 2) (q_cons (q_tuple z_tuple (q_cons (q_var 3) (q_nil))) (q_nil))))))))))
theorem t_read_number {f c : Addr} (z_len : mg "len" = none) (z_all : mg "all" = none) (z_int : mg "int" = none) (Z_FIGURES : GStr mg "FIGURES" "0123456789") {P0 : Addr} (C0 : CodeT K c P0) (hP0 : K.lookup P0 = none) (B0 : BMk K mg) (A : Around) (outer : List Env) (s : Shared) (H : Hp) (E : XK) (hr : Room (k + 2) (A.deeper (PyProof.Rows.envOfC "read_number" (defScope s_read_number) s.heap.objs.size f (.ref c)))) :
    QSs (cxOf CX0 P w K mg base ["word", "most", "sign"] "read_number" (defScope s_read_number) f (.ref c) A outer s H E).nox (defBody s_read_number) m_read_number :=
  qss_cons (q_sif (QW.qt (q_or (q_teq hr (q_var 0) (q_str)) (q_or (q_tgt (q_len z_len (q_cons (q_var 0) (q_nil))) (q_var 1)) (q_or1 (q_tnot (q_ttru (q_allG (own := [("sign", 2)]) hr (q_isign (q_var 0)) (blkOk_by (N := ["word", "most", "sign"]) (sc := defScope s_read_number) (own := [("sign", 2)]) (by decide +kernel)) sc_read_number.nd rfl C0 hP0 B0 (fun _ _ _ _ _ _ hr => q_gname 2 sc_read_number.nd) (fun _ _ _ _ _ _ hr => q_ifs0) (fun _ _ _ _ _ _ hr => q_inC (q_var 2) (q_gstr Z_FIGURES)) z_all (by decide)))))))) (qss_one (q_ret (q_non))) (qss_nil)) (qss_cons (q_sif (QW.qt (q_and (q_teq hr (q_ix (q_var 0) (q_int)) (q_str)) (q_and1 (q_tne hr (q_var 0) (q_str))))) (qss_one (q_ret (q_non))) (qss_nil)) (qss_one (q_ret (q_intT z_int (q_cons (q_var 0) (q_nil))))))
theorem t_read_tie {f c : Addr} (Z_MOST_FIGURES : GInt mg "MOST_FIGURES" 4) (G_read_pair : DefOk P w K mg base k "read_pair" f_read_pair) (A : Around) (outer : List Env) (s : Shared) (H : Hp) (E : XK) (hr : Room k (A.deeper (PyProof.Rows.envOfC "read_tie" (defScope s_read_tie) s.heap.objs.size f (.ref c)))) :
    QSs (cxOf CX0 P w K mg base ["word", "many", "pair"] "read_tie" (defScope s_read_tie) f (.ref c) A outer s H E).nox (defBody s_read_tie) m_read_tie :=
  qss_cons (q_set 2 (q_call G_read_pair hr (q_cons (q_var 0) (q_cons (q_gint Z_MOST_FIGURES) (q_nil)))) sc_read_tie.nd) (qss_cons (q_sif (QW.qt (q_or (q_tisN (q_var 2) (q_non)) (q_or1 (q_tnot (q_tch op_lt op_lt (s_rI0 fun _ _ _ _ => .bl _) (s_rI0 fun _ _ _ _ => .bl _) (q_ix (q_var 2) (q_int)) (q_ix (q_var 2) (q_int)) (q_var 1)))))) (qss_one (q_ret (q_non))) (qss_nil)) (qss_one (q_ret (q_var 2))))
theorem t_read_pair {f c : Addr} (z_len : mg "len" = none) (z_tuple : mg "tuple" = none) (G_read_number : DefOk P w K mg base k "read_number" f_read_number) (A : Around) (outer : List Env) (s : Shared) (H : Hp) (E : XK) (hr : Room k (A.deeper (PyProof.Rows.envOfC "read_pair" (defScope s_read_pair) s.heap.objs.size f (.ref c)))) :
    QSs (cxOf CX0 P w K mg base ["word", "most", "numbers", "piece"] "read_pair" (defScope s_read_pair) f (.ref c) A outer s H E).nox (defBody s_read_pair) m_read_pair :=
  qss_cons (q_setLc 2 (own := [("piece", 3)]) rfl sc_read_pair.nd rfl rfl (sw_true rfl rfl rfl (by decide +kernel)) (q_iseq (q_split (q_var 0) (q_str))) (blkOk_by (N := ["word", "most", "numbers", "piece"]) (sc := defScope s_read_pair) (own := [("piece", 3)]) (by decide +kernel)) (fun _ _ _ _ _ => q_gname 3 sc_read_pair.nd) (fun _ _ _ _ _ => q_ifs0) (fun _ _ _ _ _ => q_call G_read_number hr (q_cons (q_var 3) (q_cons (q_var 1) (q_nil)))) (by decide)) (qss_cons (q_sif (QW.qt (q_or (q_tne hr (q_len z_len (q_cons (q_var 2) (q_nil))) (q_int)) (q_or1 (q_tin (q_non) (q_var 2))))) (qss_one (q_ret (q_non))) (qss_nil)) (qss_one (q_ret (q_tuple z_tuple (q_cons (q_var 2) (q_nil))))))
theorem t_law_feed {f c : Addr} (z_list : mg "list" = none) (A : Around) (outer : List Env) (s : Shared) (H : Hp) (E : XK) (hr : Room k (A.deeper (PyProof.Rows.envOfC "_law_feed" (defScope s_law_feed) s.heap.objs.size f (.ref c)))) :
    QSs (cxOf CX0 P w K mg base ["_law_script"] "_law_feed" (defScope s_law_feed) f (.ref c) A outer s H E).nox (defBody s_law_feed) m_law_feed :=
  qss_one (q_ret (q_lst (q_cons (q_list z_list (q_cons (q_slice (q_var 0) (q_onone) (q_osome (q_int))) (q_nil))) (q_cons (q_int) (q_cons (q_int) (q_nil))))))
theorem t_law_draw {f c : Addr} (z_len : mg "len" = none) (A : Around) (outer : List Env) (s : Shared) (H : Hp) (E : XK) (hr : Room k (A.deeper (PyProof.Rows.envOfC "_law_draw" (defScope s_law_draw) s.heap.objs.size f (.ref c)))) :
    QSs (cxOf CX0 P w K mg base ["_law_feed_here", "_law_many", "_law_found", "_law_spot", "_law_cell", "_law_mixed"] "_law_draw" (defScope s_law_draw) f (.ref c) A outer s H E).nox (defBody s_law_draw) m_law_draw :=
  qss_cons (q_sif (q_tgt (q_ix (q_var 0) (q_int)) (q_int)) (qss_cons (q_set 2 (q_mod (q_ix (q_var 0) (q_int)) (q_var 1)) sc_law_draw.nd) (qss_cons (q_put (q_fdiv (q_ix (q_var 0) (q_int)) (q_var 1)) (q_var 0) (q_int)) (qss_one (q_ret (q_var 2))))) (qss_nil)) (qss_cons (q_set 3 (q_ix (q_var 0) (q_int)) sc_law_draw.nd) (qss_cons (q_put (q_add (q_var 3) (q_int)) (q_var 0) (q_int)) (qss_cons (q_set 4 (q_mul (q_int) (q_var 3)) sc_law_draw.nd) (qss_cons (q_sif (q_tgc (q_tne hr (q_ix (q_var 0) (q_int)) (q_lst (q_nil)))) (qss_one (q_set 4 (q_ix (q_ix (q_var 0) (q_int)) (q_mod (q_var 3) (q_len z_len (q_cons (q_ix (q_var 0) (q_int)) (q_nil))))) sc_law_draw.nd)) (qss_nil)) (qss_cons (q_sif (QW.qt (q_and (q_tge (q_var 4) (q_pow (q_int) (q_int))) (q_and1 (q_tlt (q_var 3) (q_len z_len (q_cons (q_ix (q_var 0) (q_int)) (q_nil))))))) (qss_cons (q_put (q_fdiv (q_var 4) (q_var 1)) (q_var 0) (q_int)) (qss_one (q_ret (q_mod (q_var 4) (q_var 1))))) (qss_nil)) (qss_cons (q_set 5 (q_mod (q_add (q_add (q_mod (q_var 4) (q_int)) (q_mul (q_int) (q_var 3))) (q_int)) (q_int)) sc_law_draw.nd) (qss_cons (q_set 5 (q_mod (q_mul (q_var 5) (q_add (q_var 5) (q_int))) (q_int)) sc_law_draw.nd) (qss_one (q_ret (q_mod (q_fdiv (q_mod (q_add (q_mul (q_var 5) (q_int)) (q_var 3)) (q_int)) (q_int)) (q_var 1)))))))))))
theorem t_law_web {f c : Addr} (z_range : mg "range" = none) (z_tuple : mg "tuple" = none) (G_law_draw : DefOk P w K mg base k "_law_draw" f_law_draw) (A : Around) (outer : List Env) (s : Shared) (H : Hp) (E : XK) (hr : Room k (A.deeper (PyProof.Rows.envOfC "_law_web" (defScope s_law_web) s.heap.objs.size f (.ref c)))) :
    QSs (cxOf CX0 P w K mg base ["_law_feed_here", "_law_most", "_law_many", "_law_often", "_law_ties", "_law_i", "_law_j"] "_law_web" (defScope s_law_web) f (.ref c) A outer s H E).nox (defBody s_law_web) m_law_web :=
  qss_cons (q_set 2 (q_call G_law_draw hr (q_cons (q_var 0) (q_cons (q_add (q_var 1) (q_int)) (q_nil)))) sc_law_web.nd) (qss_cons (q_set 3 (q_call G_law_draw hr (q_cons (q_var 0) (q_cons (q_int) (q_nil)))) sc_law_web.nd) (qss_cons (q_set 4 (q_lst (q_nil)) sc_law_web.nd) (qss_cons (q_for PassesOwn.never rfl (q_irange1 z_range (q_cons (q_var 2) (q_nil)) (h1 := len1)) (q_gname 5 sc_law_web.nd) (qss_one (q_for PassesOwn.never rfl (q_irange2 z_range (q_cons (q_add (q_var 5) (q_int)) (q_cons (q_var 2) (q_nil))) (h1 := len2)) (q_gname 6 sc_law_web.nd) (qss_one (q_sif (q_tlt (q_call G_law_draw hr (q_cons (q_var 0) (q_cons (q_int) (q_nil)))) (q_var 3)) (qss_one (q_expr (q_append (q_var 4) (q_cons (q_tup (q_cons (q_var 5) (q_cons (q_var 6) (q_nil)))) (q_nil))))) (qss_nil)))))) (qss_one (q_ret (q_tup (q_cons (q_var 2) (q_cons (q_tuple z_tuple (q_cons (q_var 4) (q_nil))) (q_nil)))))))))
theorem t_law_text {f c : Addr} (z_str : mg "str" = none) (A : Around) (outer : List Env) (s : Shared) (H : Hp) (E : XK) (hr : Room k (A.deeper (PyProof.Rows.envOfC "_law_text" (defScope s_law_text) s.heap.objs.size f (.ref c)))) :
    QSs (cxOf CX0 P w K mg base ["_law_web_here", "_law_i", "_law_j"] "_law_text" (defScope s_law_text) f (.ref c) A outer s H E).nox (defBody s_law_text) m_law_text :=
  qss_one (q_ret (q_join (q_str) (q_add (q_lst (q_cons (q_strI z_str (q_cons (q_ix (q_var 0) (q_int)) (q_nil))) (q_nil))) (q_lc (own := [("_law_i", 1), ("_law_j", 2)]) rfl sc_law_text.nd (q_iseq (q_ix (q_var 0) (q_int))) (blkOk_by (N := ["_law_web_here", "_law_i", "_law_j"]) (sc := defScope s_law_text) (own := [("_law_i", 1), ("_law_j", 2)]) (by decide +kernel)) (fun _ _ _ _ _ => q_gtup rfl (q_gcons (q_gname 1 sc_law_text.nd) (q_gcons (q_gname 2 sc_law_text.nd) (q_gnil)))) (fun _ _ _ _ _ => q_ifs0) (fun _ _ _ _ _ => q_add (q_add (q_strI z_str (q_cons (q_var 1) (q_nil))) (q_str)) (q_strI z_str (q_cons (q_var 2) (q_nil)))) (by decide)))))
theorem t_law_great {f c : Addr} (z_range : mg "range" = none) (z_max : mg "max" = none) (z_min : mg "min" = none) (z_sorted : mg "sorted" = none) (z_tuple : mg "tuple" = none) (G_law_draw : DefOk P w K mg base k "_law_draw" f_law_draw) (A : Around) (outer : List Env) (s : Shared) (H : Hp) (E : XK) (hr : Room k (A.deeper (PyProof.Rows.envOfC "_law_great" (defScope s_law_great) s.heap.objs.size f (.ref c)))) :
    QSs (cxOf CX0 P w K mg base ["_law_feed_here", "_law_many", "_law_ties", "_law_k", "_law_one", "_law_other", "_law_tie"] "_law_great" (defScope s_law_great) f (.ref c) A outer s H E).nox (defBody s_law_great) m_law_great :=
  qss_cons (q_set 1 (q_ix (q_lst (q_cons (q_add (q_int) (q_call G_law_draw hr (q_cons (q_var 0) (q_cons (q_int) (q_nil))))) (q_cons (q_add (q_int) (q_call G_law_draw hr (q_cons (q_var 0) (q_cons (q_int) (q_nil))))) (q_cons (q_sub (q_int) (q_call G_law_draw hr (q_cons (q_var 0) (q_cons (q_int) (q_nil))))) (q_nil))))) (q_call G_law_draw hr (q_cons (q_var 0) (q_cons (q_int) (q_nil))))) sc_law_great.nd) (qss_cons (q_set 2 (q_lst (q_nil)) sc_law_great.nd) (qss_cons (q_for PassesOwn.never rfl (q_irange1 z_range (q_cons (q_call G_law_draw hr (q_cons (q_var 0) (q_cons (q_int) (q_nil)))) (q_nil)) (h1 := len1)) (q_gname 3 sc_law_great.nd) (qss_cons (q_set 4 (q_call G_law_draw hr (q_cons (q_var 0) (q_cons (q_var 1) (q_nil)))) sc_law_great.nd) (qss_cons (q_set 5 (q_ix (q_lst (q_cons (q_call G_law_draw hr (q_cons (q_var 0) (q_cons (q_var 1) (q_nil)))) (q_cons (q_sub (q_var 1) (q_int)) (q_cons (q_mod (q_add (q_var 4) (q_int)) (q_var 1)) (q_nil))))) (q_call G_law_draw hr (q_cons (q_var 0) (q_cons (q_int) (q_nil))))) sc_law_great.nd) (qss_cons (q_set 6 (q_tup (q_cons (q_min2 rfl z_min (q_cons (q_var 4) (q_cons (q_var 5) (q_nil)))) (q_cons (q_max2 rfl z_max (q_cons (q_var 4) (q_cons (q_var 5) (q_nil)))) (q_nil)))) sc_law_great.nd) (qss_one (q_sif (QW.qt (q_and (q_tne hr (q_var 4) (q_var 5)) (q_and1 (q_tnotinD hr (q_var 6) (q_var 2))))) (qss_one (q_expr (q_append (q_var 2) (q_cons (q_var 6) (q_nil))))) (qss_nil))))))) (qss_one (q_ret (q_tup (q_cons (q_var 1) (q_cons (q_tuple z_tuple (q_cons (q_sorted z_sorted (q_cons (q_var 2) (q_nil))) (q_nil))) (q_nil))))))))
theorem t_law {f c : Addr} (z_range : mg "range" = none) (z_repr : mg "repr" = none) (G_law_feed : DefOk P w K mg base k "_law_feed" f_law_feed) (G_law_web : DefOk P w K mg base k "_law_web" f_law_web) (G_law_great : DefOk P w K mg base k "_law_great" f_law_great) (G_law_text : DefOk P w K mg base k "_law_text" f_law_text) (G_read_web : DefOk P w K mg base k "read_web" f_read_web) (G_web_text : DefOk P w K mg base k "web_text" f_web_text) (A : Around) (outer : List Env) (s : Shared) (H : Hp) (E : XK) (hr : Room k (A.deeper (PyProof.Rows.envOfC "law" (defScope s_law) s.heap.objs.size f (.ref c)))) :
    QSs (cxOf CX0 P w K mg base ["_law_script", "_law_feed_here", "_law_k", "_law_web_here", "_law_kept", "_law_text_here", "_law_told"] "law" (defScope s_law) f (.ref c) A outer s H E).nox (defBody s_law) m_law :=
  qss_cons (q_set 1 (q_call G_law_feed hr (q_cons (q_var 0) (q_nil))) sc_law.nd) (qss_cons (q_for PassesOwn.never rfl (q_irange1 z_range (q_cons (q_int) (q_nil)) (h1 := len1)) (q_gname 2 sc_law.nd) (qss_cons (q_set 3 (q_if (q_tlt (q_var 2) (q_int)) (q_call G_law_web hr (q_cons (q_var 1) (q_cons (q_int) (q_nil)))) (q_call G_law_great hr (q_cons (q_var 1) (q_nil)))) sc_law.nd) (qss_cons (q_set 4 (q_repr hr z_repr (q_cons (q_var 3) (q_nil))) sc_law.nd) (qss_cons (q_set 5 (q_call G_law_text hr (q_cons (q_var 3) (q_nil))) sc_law.nd) (qss_cons (q_set 6 (q_call G_read_web hr (q_cons (q_var 5) (q_nil))) sc_law.nd) (qss_cons (q_sif (QW.qt (q_or (q_tne hr (q_repr hr z_repr (q_cons (q_var 6) (q_nil))) (q_var 4)) (q_or (q_tne hr (q_repr hr z_repr (q_cons (q_call G_web_text hr (q_cons (q_var 6) (q_nil))) (q_nil))) (q_repr hr z_repr (q_cons (q_var 5) (q_nil)))) (q_or1 (q_tne hr (q_repr hr z_repr (q_cons (q_var 6) (q_nil))) (q_var 4)))))) (qss_one (q_ret (q_bl))) (qss_nil)) (qss_one (q_sif (QW.qt (q_and (q_tlt (q_var 2) (q_int)) (q_and1 (QW.qt (q_or (q_tne hr (q_repr hr z_repr (q_cons (q_call G_web_text hr (q_cons (q_var 3) (q_nil))) (q_nil))) (q_repr hr z_repr (q_cons (q_var 5) (q_nil)))) (q_or1 (q_tne hr (q_repr hr z_repr (q_cons (q_var 3) (q_nil))) (q_var 4)))))))) (qss_one (q_ret (q_bl))) (qss_nil))))))))) (qss_one (q_ret (q_bl))))
end
end K05
namespace K05
open PySem L2 Q2 Rd
open Pm (f_law_web m_law_web ar_law_web sem_law_web)
open Pw (f_law_feed m_law_feed ar_law_feed sem_law_feed f_law_draw m_law_draw ar_law_draw sem_law_draw)
theorem all_mk {l : PySem.W.OpenLaw} {w : World} {K : PySem.W.Frag} {h : Heap} {mg : Str → Option Value} {fa bm f0 q0 T0 f1 q1 T1 f2 q2 T2 f3 q3 T3 f4 q4 T4 f5 q5 T5 f6 q6 T6 f7 q7 T7 f8 q8 T8 f9 q9 T9 f10 q10 T10 : Addr} {bs : Array (Option Value)} (X : K.In h) (G : h.Ns mainGlobals mg) (hfa : mg "law" = some (.ref fa))
    {od0 an0 dd0 : Option Addr} {sl0 ss0 : Array (Option Value)} {vv0 pp0 : Array Value} {oc0 kV0 dc0 pm0 ct0 : Value}
    (a0 : PySem.W.nsIn K mainGlobals "web_text" = some (some (.ref f0))) (l0 : K.lookup f0 = some ⟨oc0, od0, .func (PySem.W.fnOf "web_text" "web_text" (defArgs s_web_text) (defBody s_web_text) (defScope s_web_text) .none kV0 dc0 pm0 an0 (.ref q0) ct0), sl0⟩) (r0 : K.lookup q0 = some ⟨.type "code", dd0, .fields vv0, ss0⟩) (v0 : codeVals vv0 "web_text" = some T0) (t0 : K.lookup T0 = some ⟨.none, none, .fields pp0, #[]⟩) (w0 : triplesB pp0.toList = true)
    {od1 an1 dd1 : Option Addr} {sl1 ss1 : Array (Option Value)} {vv1 pp1 : Array Value} {oc1 kV1 dc1 pm1 ct1 : Value}
    (a1 : PySem.W.nsIn K mainGlobals "read_web" = some (some (.ref f1))) (l1 : K.lookup f1 = some ⟨oc1, od1, .func (PySem.W.fnOf "read_web" "read_web" (defArgs s_read_web) (defBody s_read_web) (defScope s_read_web) .none kV1 dc1 pm1 an1 (.ref q1) ct1), sl1⟩) (r1 : K.lookup q1 = some ⟨.type "code", dd1, .fields vv1, ss1⟩) (v1 : codeVals vv1 "read_web" = some T1) (t1 : K.lookup T1 = some ⟨.none, none, .fields pp1, #[]⟩) (w1 : triplesB pp1.toList = true)
    {od2 an2 dd2 : Option Addr} {sl2 ss2 : Array (Option Value)} {vv2 pp2 : Array Value} {oc2 kV2 dc2 pm2 ct2 : Value}
    (a2 : PySem.W.nsIn K mainGlobals "read_number" = some (some (.ref f2))) (l2 : K.lookup f2 = some ⟨oc2, od2, .func (PySem.W.fnOf "read_number" "read_number" (defArgs s_read_number) (defBody s_read_number) (defScope s_read_number) .none kV2 dc2 pm2 an2 (.ref q2) ct2), sl2⟩) (r2 : K.lookup q2 = some ⟨.type "code", dd2, .fields vv2, ss2⟩) (v2 : codeVals vv2 "read_number" = some T2) (t2 : K.lookup T2 = some ⟨.none, none, .fields pp2, #[]⟩) (w2 : triplesB pp2.toList = true)
    {od3 an3 dd3 : Option Addr} {sl3 ss3 : Array (Option Value)} {vv3 pp3 : Array Value} {oc3 kV3 dc3 pm3 ct3 : Value}
    (a3 : PySem.W.nsIn K mainGlobals "read_tie" = some (some (.ref f3))) (l3 : K.lookup f3 = some ⟨oc3, od3, .func (PySem.W.fnOf "read_tie" "read_tie" (defArgs s_read_tie) (defBody s_read_tie) (defScope s_read_tie) .none kV3 dc3 pm3 an3 (.ref q3) ct3), sl3⟩) (r3 : K.lookup q3 = some ⟨.type "code", dd3, .fields vv3, ss3⟩) (v3 : codeVals vv3 "read_tie" = some T3) (t3 : K.lookup T3 = some ⟨.none, none, .fields pp3, #[]⟩) (w3 : triplesB pp3.toList = true)
    {od4 an4 dd4 : Option Addr} {sl4 ss4 : Array (Option Value)} {vv4 pp4 : Array Value} {oc4 kV4 dc4 pm4 ct4 : Value}
    (a4 : PySem.W.nsIn K mainGlobals "read_pair" = some (some (.ref f4))) (l4 : K.lookup f4 = some ⟨oc4, od4, .func (PySem.W.fnOf "read_pair" "read_pair" (defArgs s_read_pair) (defBody s_read_pair) (defScope s_read_pair) .none kV4 dc4 pm4 an4 (.ref q4) ct4), sl4⟩) (r4 : K.lookup q4 = some ⟨.type "code", dd4, .fields vv4, ss4⟩) (v4 : codeVals vv4 "read_pair" = some T4) (t4 : K.lookup T4 = some ⟨.none, none, .fields pp4, #[]⟩) (w4 : triplesB pp4.toList = true)
    {od5 an5 dd5 : Option Addr} {sl5 ss5 : Array (Option Value)} {vv5 pp5 : Array Value} {oc5 kV5 dc5 pm5 ct5 : Value}
    (a5 : PySem.W.nsIn K mainGlobals "_law_feed" = some (some (.ref f5))) (l5 : K.lookup f5 = some ⟨oc5, od5, .func (PySem.W.fnOf "_law_feed" "_law_feed" (defArgs s_law_feed) (defBody s_law_feed) (defScope s_law_feed) .none kV5 dc5 pm5 an5 (.ref q5) ct5), sl5⟩) (r5 : K.lookup q5 = some ⟨.type "code", dd5, .fields vv5, ss5⟩) (v5 : codeVals vv5 "_law_feed" = some T5) (t5 : K.lookup T5 = some ⟨.none, none, .fields pp5, #[]⟩) (w5 : triplesB pp5.toList = true)
    {od6 an6 dd6 : Option Addr} {sl6 ss6 : Array (Option Value)} {vv6 pp6 : Array Value} {oc6 kV6 dc6 pm6 ct6 : Value}
    (a6 : PySem.W.nsIn K mainGlobals "_law_draw" = some (some (.ref f6))) (l6 : K.lookup f6 = some ⟨oc6, od6, .func (PySem.W.fnOf "_law_draw" "_law_draw" (defArgs s_law_draw) (defBody s_law_draw) (defScope s_law_draw) .none kV6 dc6 pm6 an6 (.ref q6) ct6), sl6⟩) (r6 : K.lookup q6 = some ⟨.type "code", dd6, .fields vv6, ss6⟩) (v6 : codeVals vv6 "_law_draw" = some T6) (t6 : K.lookup T6 = some ⟨.none, none, .fields pp6, #[]⟩) (w6 : triplesB pp6.toList = true)
    {od7 an7 dd7 : Option Addr} {sl7 ss7 : Array (Option Value)} {vv7 pp7 : Array Value} {oc7 kV7 dc7 pm7 ct7 : Value}
    (a7 : PySem.W.nsIn K mainGlobals "_law_web" = some (some (.ref f7))) (l7 : K.lookup f7 = some ⟨oc7, od7, .func (PySem.W.fnOf "_law_web" "_law_web" (defArgs s_law_web) (defBody s_law_web) (defScope s_law_web) .none kV7 dc7 pm7 an7 (.ref q7) ct7), sl7⟩) (r7 : K.lookup q7 = some ⟨.type "code", dd7, .fields vv7, ss7⟩) (v7 : codeVals vv7 "_law_web" = some T7) (t7 : K.lookup T7 = some ⟨.none, none, .fields pp7, #[]⟩) (w7 : triplesB pp7.toList = true)
    {od8 an8 dd8 : Option Addr} {sl8 ss8 : Array (Option Value)} {vv8 pp8 : Array Value} {oc8 kV8 dc8 pm8 ct8 : Value}
    (a8 : PySem.W.nsIn K mainGlobals "_law_text" = some (some (.ref f8))) (l8 : K.lookup f8 = some ⟨oc8, od8, .func (PySem.W.fnOf "_law_text" "_law_text" (defArgs s_law_text) (defBody s_law_text) (defScope s_law_text) .none kV8 dc8 pm8 an8 (.ref q8) ct8), sl8⟩) (r8 : K.lookup q8 = some ⟨.type "code", dd8, .fields vv8, ss8⟩) (v8 : codeVals vv8 "_law_text" = some T8) (t8 : K.lookup T8 = some ⟨.none, none, .fields pp8, #[]⟩) (w8 : triplesB pp8.toList = true)
    {od9 an9 dd9 : Option Addr} {sl9 ss9 : Array (Option Value)} {vv9 pp9 : Array Value} {oc9 kV9 dc9 pm9 ct9 : Value}
    (a9 : PySem.W.nsIn K mainGlobals "_law_great" = some (some (.ref f9))) (l9 : K.lookup f9 = some ⟨oc9, od9, .func (PySem.W.fnOf "_law_great" "_law_great" (defArgs s_law_great) (defBody s_law_great) (defScope s_law_great) .none kV9 dc9 pm9 an9 (.ref q9) ct9), sl9⟩) (r9 : K.lookup q9 = some ⟨.type "code", dd9, .fields vv9, ss9⟩) (v9 : codeVals vv9 "_law_great" = some T9) (t9 : K.lookup T9 = some ⟨.none, none, .fields pp9, #[]⟩) (w9 : triplesB pp9.toList = true)
    {od10 an10 dd10 : Option Addr} {sl10 ss10 : Array (Option Value)} {vv10 pp10 : Array Value} {oc10 kV10 dc10 pm10 ct10 : Value}
    (a10 : PySem.W.nsIn K mainGlobals "law" = some (some (.ref f10))) (l10 : K.lookup f10 = some ⟨oc10, od10, .func (PySem.W.fnOf "law" "law" (defArgs s_law) (defBody s_law) (defScope s_law) .none kV10 dc10 pm10 an10 (.ref q10) ct10), sl10⟩) (r10 : K.lookup q10 = some ⟨.type "code", dd10, .fields vv10, ss10⟩) (v10 : codeVals vv10 "law" = some T10) (t10 : K.lookup T10 = some ⟨.none, none, .fields pp10, #[]⟩) (w10 : triplesB pp10.toList = true)
    (bb : PySem.W.nsIn K mainGlobals "__builtins__" = some (some (.ref bm))) (bl : K.lookup bm = some ⟨.type "module", some builtinsNs, .plain, bs⟩) (bn : (bm == builtinsNs) = false)
    {gv_MOST_FIGURES : Value} (g_MOST_FIGURES : PySem.W.nsIn K mainGlobals "MOST_FIGURES" = some (some gv_MOST_FIGURES)) (gi_MOST_FIGURES : ∃ t, gv_MOST_FIGURES = .int 4 t)
    {gv_FIGURES : Value} (g_FIGURES : PySem.W.nsIn K mainGlobals "FIGURES" = some (some gv_FIGURES)) (gi_FIGURES : ∃ t, gv_FIGURES = .str "0123456789" t)
    (zz_str : PySem.W.nsIn K mainGlobals "str" = some none)
    (zz_range : PySem.W.nsIn K mainGlobals "range" = some none)
    (zz_len : PySem.W.nsIn K mainGlobals "len" = some none)
    (zz_tuple : PySem.W.nsIn K mainGlobals "tuple" = some none)
    (zz_all : PySem.W.nsIn K mainGlobals "all" = some none)
    (zz_int : PySem.W.nsIn K mainGlobals "int" = some none)
    (zz_list : PySem.W.nsIn K mainGlobals "list" = some none)
    (zz_max : PySem.W.nsIn K mainGlobals "max" = some none)
    (zz_min : PySem.W.nsIn K mainGlobals "min" = some none)
    (zz_sorted : PySem.W.nsIn K mainGlobals "sorted" = some none)
    (zz_repr : PySem.W.nsIn K mainGlobals "repr" = some none)
    : ∃ fd : FuncData, (∀ (s : Shared) (v : Value), BindsTo s fd ⟨[v], []⟩ [("_law_script", v)]) ∧ ∀ base : Heap, (dropT K).In base → base.Ns mainGlobals mg → FnOk l.prog w (dropT K) mg base CX0 7 fa fd ["_law_script"] (spF (dropT K) fLaw) := by
  have e := hfa.symm.trans (PySem.W.mg_of X G a10)
  cases e
  have B0 := BMk.of X G bb bl bn
  have Z_MOST_FIGURES : GInt mg "MOST_FIGURES" 4 := by obtain ⟨t, e⟩ := gi_MOST_FIGURES; exact ⟨t, (PySem.W.mg_of X G g_MOST_FIGURES).trans (congrArg some e)⟩
  have Z_FIGURES : GStr mg "FIGURES" "0123456789" := by obtain ⟨t, e⟩ := gi_FIGURES; exact ⟨t, (PySem.W.mg_of X G g_FIGURES).trans (congrArg some e)⟩
  have z_str := PySem.W.mg_none_of X G zz_str
  have z_range := PySem.W.mg_none_of X G zz_range
  have z_len := PySem.W.mg_none_of X G zz_len
  have z_tuple := PySem.W.mg_none_of X G zz_tuple
  have z_all := PySem.W.mg_none_of X G zz_all
  have z_int := PySem.W.mg_none_of X G zz_int
  have z_list := PySem.W.mg_none_of X G zz_list
  have z_max := PySem.W.mg_none_of X G zz_max
  have z_min := PySem.W.mg_none_of X G zz_min
  have z_sorted := PySem.W.mg_none_of X G zz_sorted
  have z_repr := PySem.W.mg_none_of X G zz_repr
  have R0 := CodeR.of r0 v0 t0 w0
  have R1 := CodeR.of r1 v1 t1 w1
  have R2 := CodeR.of r2 v2 t2 w2
  have R3 := CodeR.of r3 v3 t3 w3
  have R4 := CodeR.of r4 v4 t4 w4
  have R5 := CodeR.of r5 v5 t5 w5
  have R6 := CodeR.of r6 v6 t6 w6
  have R7 := CodeR.of r7 v7 t7 w7
  have R8 := CodeR.of r8 v8 t8 w8
  have R9 := CodeR.of r9 v9 t9 w9
  have R10 := CodeR.of r10 v10 t10 w10
  refine ⟨PySem.W.fnOf "law" "law" (defArgs s_law) (defBody s_law) (defScope s_law) .none kV10 dc10 pm10 an10 (.ref q10) ct10, fun s v => .of_eq rfl, fun base _ _ => ?_⟩
  have D_web_text : DefOk l.prog w (dropT K) mg base 1 "web_text" f_web_text := def_okC l0 R0 (PySem.W.mg_of X G a0) sc_web_text (fun us hl => match us, hl with | [_], _ => rfl) ar_web_text (t_web_text z_str) sem_web_text
  have D_law_feed : DefOk l.prog w (dropT K) mg base 1 "_law_feed" f_law_feed := def_okC l5 R5 (PySem.W.mg_of X G a5) sc_law_feed (fun us hl => match us, hl with | [_], _ => rfl) ar_law_feed (t_law_feed z_list) sem_law_feed
  have D_law_draw : DefOk l.prog w (dropT K) mg base 1 "_law_draw" f_law_draw := def_okC l6 R6 (PySem.W.mg_of X G a6) sc_law_draw (fun us hl => match us, hl with | [_, _], _ => rfl) ar_law_draw (t_law_draw z_len) sem_law_draw
  have D_law_text : DefOk l.prog w (dropT K) mg base 1 "_law_text" f_law_text := def_okC l8 R8 (PySem.W.mg_of X G a8) sc_law_text (fun us hl => match us, hl with | [_], _ => rfl) ar_law_text (t_law_text z_str) sem_law_text
  have D_law_web : DefOk l.prog w (dropT K) mg base 2 "_law_web" f_law_web := def_okC l7 R7 (PySem.W.mg_of X G a7) sc_law_web (fun us hl => match us, hl with | [_, _], _ => rfl) ar_law_web (t_law_web z_range z_tuple (D_law_draw.mono (by decide))) sem_law_web
  have D_law_great : DefOk l.prog w (dropT K) mg base 2 "_law_great" f_law_great := def_okC l9 R9 (PySem.W.mg_of X G a9) sc_law_great (fun us hl => match us, hl with | [_], _ => rfl) ar_law_great (t_law_great z_range z_max z_min z_sorted z_tuple (D_law_draw.mono (by decide))) sem_law_great
  have D_read_number : DefOk l.prog w (dropT K) mg base 3 "read_number" f_read_number := def_okC l2 R2 (PySem.W.mg_of X G a2) sc_read_number (fun us hl => match us, hl with | [_, _], _ => rfl) ar_read_number (t_read_number (k := 0) z_len z_all z_int Z_FIGURES R2.codeT R2.out B0) sem_read_number
  have D_read_pair : DefOk l.prog w (dropT K) mg base 4 "read_pair" f_read_pair := def_okC l4 R4 (PySem.W.mg_of X G a4) sc_read_pair (fun us hl => match us, hl with | [_, _], _ => rfl) ar_read_pair (t_read_pair z_len z_tuple (D_read_number.mono (by decide))) sem_read_pair
  have D_read_tie : DefOk l.prog w (dropT K) mg base 5 "read_tie" f_read_tie := def_okC l3 R3 (PySem.W.mg_of X G a3) sc_read_tie (fun us hl => match us, hl with | [_, _], _ => rfl) ar_read_tie (t_read_tie Z_MOST_FIGURES (D_read_pair.mono (by decide))) sem_read_tie
  have D_read_web : DefOk l.prog w (dropT K) mg base 6 "read_web" f_read_web := def_okC l1 R1 (PySem.W.mg_of X G a1) sc_read_web (fun us hl => match us, hl with | [_], _ => rfl) ar_read_web (t_read_web z_range z_len z_tuple Z_MOST_FIGURES (D_read_number.mono (by decide)) (D_read_tie.mono (by decide))) sem_read_web
  exact fn_okC l10 R10 sc_law ar_law (t_law z_range z_repr (D_law_feed.mono (by decide)) (D_law_web.mono (by decide)) (D_law_great.mono (by decide)) (D_law_text.mono (by decide)) (D_read_web.mono (by decide)) (D_web_text.mono (by decide))) sem_law
end K05
open PySem PySem.W PyProof.Rows
set_option maxRecDepth 100000 in
set_option maxHeartbeats 0 in
theorem PySem.Challenge.cw_pairtally_k05_webs_written_and_read_holds : PySem.Challenge.rw_pairtally_k05_webs_written_and_read.Holds := by
  w_on; o_law; x_head; (case hw => w_witness2)
  k_fill
  refine Q2.walkT (l := PySem.Challenge.rw_pairtally_k05_webs_written_and_read) (x := "_law_script") (k := 7) rfl rfl ⟨rfl, by decide, by decide, rfl⟩ (fun w h Y => PySem.W.kIn_of Y) ?F
  case F =>
    intro w mg fa h KX G hmg
    refine' K05.all_mk KX G hmg ?a0 ?l0 ?r0 ?v0 ?t0 ?w0 ?a1 ?l1 ?r1 ?v1 ?t1 ?w1 ?a2 ?l2 ?r2 ?v2 ?t2 ?w2 ?a3 ?l3 ?r3 ?v3 ?t3 ?w3 ?a4 ?l4 ?r4 ?v4 ?t4 ?w4 ?a5 ?l5 ?r5 ?v5 ?t5 ?w5 ?a6 ?l6 ?r6 ?v6 ?t6 ?w6 ?a7 ?l7 ?r7 ?v7 ?t7 ?w7 ?a8 ?l8 ?r8 ?v8 ?t8 ?w8 ?a9 ?l9 ?r9 ?v9 ?t9 ?w9 ?a10 ?l10 ?r10 ?v10 ?t10 ?w10 ?bb ?bl ?bn ?g_MOST_FIGURES ?gi_MOST_FIGURES ?g_FIGURES ?gi_FIGURES ?zz_str ?zz_range ?zz_len ?zz_tuple ?zz_all ?zz_int ?zz_list ?zz_max ?zz_min ?zz_sorted ?zz_repr
    (case a0 => k_is); (case l0 => k_is); (case r0 => k_is); (case v0 => exact rfl); (case t0 => k_is); (case w0 => exact rfl)
    (case a1 => k_is); (case l1 => k_is); (case r1 => k_is); (case v1 => exact rfl); (case t1 => k_is); (case w1 => exact rfl)
    (case a2 => k_is); (case l2 => k_is); (case r2 => k_is); (case v2 => exact rfl); (case t2 => k_is); (case w2 => exact rfl)
    (case a3 => k_is); (case l3 => k_is); (case r3 => k_is); (case v3 => exact rfl); (case t3 => k_is); (case w3 => exact rfl)
    (case a4 => k_is); (case l4 => k_is); (case r4 => k_is); (case v4 => exact rfl); (case t4 => k_is); (case w4 => exact rfl)
    (case a5 => k_is); (case l5 => k_is); (case r5 => k_is); (case v5 => exact rfl); (case t5 => k_is); (case w5 => exact rfl)
    (case a6 => k_is); (case l6 => k_is); (case r6 => k_is); (case v6 => exact rfl); (case t6 => k_is); (case w6 => exact rfl)
    (case a7 => k_is); (case l7 => k_is); (case r7 => k_is); (case v7 => exact rfl); (case t7 => k_is); (case w7 => exact rfl)
    (case a8 => k_is); (case l8 => k_is); (case r8 => k_is); (case v8 => exact rfl); (case t8 => k_is); (case w8 => exact rfl)
    (case a9 => k_is); (case l9 => k_is); (case r9 => k_is); (case v9 => exact rfl); (case t9 => k_is); (case w9 => exact rfl)
    (case a10 => k_is); (case l10 => k_is); (case r10 => k_is); (case v10 => exact rfl); (case t10 => k_is); (case w10 => exact rfl)
    (case bb => k_is); (case bl => k_is); (case bn => exact rfl)
    (case g_MOST_FIGURES => k_is); (case gi_MOST_FIGURES => exact ⟨_, rfl⟩)
    (case g_FIGURES => k_is); (case gi_FIGURES => exact ⟨_, rfl⟩)
    (case zz_str => k_is)
    (case zz_range => k_is)
    (case zz_len => k_is)
    (case zz_tuple => k_is)
    (case zz_all => k_is)
    (case zz_int => k_is)
    (case zz_list => k_is)
    (case zz_max => k_is)
    (case zz_min => k_is)
    (case zz_sorted => k_is)
    (case zz_repr => k_is)
