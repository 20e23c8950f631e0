import PyProof.Rows.All
import Wide.All
import OpenK.AllK
import Wide.FinOn
import PyProof.EqAt
import PyProof.EqKinds
import PyProof.TupleCall
import KE.BitLaws
import PySem.Challenge.RW_keytables_k01_sets_of_columns
import KE.KLam
import KE.KNestM
import PyProof.Rows.SortRunsK
import PyProof.Rows.SetFrom
import PyProof.StrWalks
import PyProof.CollectStr
import KE.KDictList
import KE.KSortKey
import KE.KDictSum
import PyProof.DictTruth
import PyProof.ToksMono
import PyProof.StrCalls6
import PyProof.StrCalls5
import KE.KListMore
import PyProof.WalksS
import KE.KMinKey
import PyProof.WalkInts
import PyProof.Draws
import PyProof.TupleOfStr
import PyProof.RulesMatch
import PyProof.Rows.MatchSeqLen
import PyProof.ListMulRoad
import PyProof.AutoSeq1
import PyProof.AutoListH
import PyProof.StrLoop
import PyProof.ZipIter
import PyProof.WalksMore
import KE.KRevSl
import KE.KStar
import PyProof.ListRange
import PyProof.Rows.StrRev
import PyProof.Rows.RuleN_abs
import KE.KStrOpen
set_option Elab.async false
set_option linter.all false
set_option maxRecDepth 100000
/-! THE HAND LAYER, for ints, bools, texts, own classes, lists, tuples, dicts, comprehensions, walks over dicts, enumerate, zip, reversed, texts, calls, loops. Paste it whole ahead of your own text; what your proof does not reach may be deleted. -/
namespace L2
open PySem PySem.Spec PyProof.Rows

/-- a key: an int or a str -/
abbrev Key := Sum Int Str
def keyIs : Key → Value → Bool
  | .inl k, v => Value.isInt k v
  | .inr x, v => Value.isStrOf x v
def keyH (w : World) : Key → Int
  | .inl k => hashInt k
  | .inr x => hashStr w x
theorem keyIs_shape : ∀ {k : Key} {v : Value}, keyIs k v = true → (∃ i t, k = Sum.inl i ∧ v = Value.int i t) ∨ (∃ x t, k = Sum.inr x ∧ v = Value.str x t)
  | .inl i, v, h => by
    obtain ⟨t, e⟩ := Value.isInt_shape (k := i) (v := v) h
    exact .inl ⟨i, t, rfl, e⟩
  | .inr x, v, h => by
    obtain ⟨t, e⟩ := Value.isStrOf_shape (x := x) (v := v) h
    exact .inr ⟨x, t, rfl, e⟩
theorem key_ll (a b : Int) : decide ((Sum.inl a : Key) = Sum.inl b) = (a == b) := by
  by_cases e : a = b
  · subst e; simp
  · have h : ¬ (Sum.inl a : Key) = Sum.inl b := fun q => e (Sum.inl.inj q)
    rw [decide_eq_false h]
    exact (beq_eq_false_iff_ne.mpr e).symm
theorem key_rr (a b : Str) : decide ((Sum.inr a : Key) = Sum.inr b) = decide (a = b) := by
  by_cases e : a = b
  · subst e; simp
  · have h : ¬ (Sum.inr a : Key) = Sum.inr b := fun q => e (Sum.inr.inj q)
    rw [decide_eq_false h, decide_eq_false e]
theorem key_lr (a : Int) (b : Str) : decide ((Sum.inl a : Key) = Sum.inr b) = false := decide_eq_false (fun q => nomatch q)
theorem key_rl (a : Str) (b : Int) : decide ((Sum.inr a : Key) = Sum.inl b) = false := decide_eq_false (fun q => nomatch q)

def mixKind (prog : Program) (w : World) : PySem.KeyKind prog w Key where
  is := keyIs
  hash := keyH w
  inj := fun v a b ha hb => by
    rcases keyIs_shape ha with ⟨i, t, rfl, rfl⟩ | ⟨x, t, rfl, rfl⟩
    · rcases keyIs_shape hb with ⟨j, u, rfl, e⟩ | ⟨y, u, rfl, e⟩
      · injection e with e1 _; rw [e1]
      · exact nomatch e
    · rcases keyIs_shape hb with ⟨j, u, rfl, e⟩ | ⟨y, u, rfl, e⟩
      · exact nomatch e
      · injection e with e1 _; rw [e1]
  byValue := fun k v h => by
    rcases keyIs_shape h with ⟨i, t, rfl, rfl⟩ | ⟨x, t, rfl, rfl⟩ <;> rfl
  pyHash := fun hv h => by
    rcases keyIs_shape hv with ⟨i, t, rfl, rfl⟩ | ⟨x, t, rfl, rfl⟩
    · exact wpAny_pyHash_int h
    · exact wpAny_pyHash_str h
  eqBool := fun hu hv h => by
    rcases keyIs_shape hu with ⟨i, t, rfl, rfl⟩ | ⟨x, t, rfl, rfl⟩
    · rcases keyIs_shape hv with ⟨j, u, rfl, rfl⟩ | ⟨y, u, rfl, rfl⟩
      · rw [key_ll] at h; exact wpAny_eqBool_int h
      · rw [key_lr] at h; exact SeqAt.EqAt.int_str i t y u _ _ _ _ h
    · rcases keyIs_shape hv with ⟨j, u, rfl, rfl⟩ | ⟨y, u, rfl, rfl⟩
      · rw [key_rl] at h; exact SeqAt.EqAt.str_int x t j u _ _ _ _ h
      · rw [key_rr] at h; exact wpAny_eqBool_str h
  «strs» := fun k x t v h => by
    rcases keyIs_shape h with ⟨i, u, rfl, e⟩ | ⟨y, u, rfl, e⟩
    · exact nomatch e
    · injection e with e1 _
      subst e1
      cases v <;> rfl

end L2

namespace L2
open PySem PySem.Spec PyProof.Rows

/-- a value, without the heap -/
inductive V where
  | non | bl (b : Bool) | int (i : Int) | str (x : Str) | byt (b : Array UInt8) | flt (b : UInt64) | ref (a : Addr) | ty (n : String)
  deriving DecidableEq

def RelV : V → Value → Prop
  | .non, u => u = Value.none
  | .bl b, u => u = Value.bool b
  | .int i, u => ∃ t, u = Value.int i t
  | .str x, u => ∃ t, u = Value.str x t
  | .byt b, u => ∃ t, u = Value.bytes b t
  | .flt b, u => ∃ t, u = Value.float b t
  | .ref a, u => u = Value.ref a
  | .ty n, u => u = Value.type n

abbrev Vals : List V → List Value → Prop := Paired RelV
theorem Vals.length {xs : List V} {us : List Value} (r : Vals xs us) : xs.length = us.length := Paired.length r
theorem Vals.get : ∀ {xs : List V} {us : List Value} {i : Nat} {x : V}, Vals xs us → xs[i]? = some x → ∃ u, us[i]? = some u ∧ RelV x u
  | _, _, _, _, .nil, e => by simp at e
  | _, _, 0, _, .cons r _, e => by simp at e; subst e; exact ⟨_, rfl, r⟩
  | _, _, i + 1, x, .cons _ t, e => by
    obtain ⟨u, h1, h2⟩ := Vals.get (i := i) (x := x) t (by simpa using e)
    exact ⟨u, by simpa using h1, h2⟩
theorem Vals.set {x : V} {u : Value} (r : RelV x u) : ∀ {xs : List V} {us : List Value} (i : Nat), Vals xs us → Vals (xs.set i x) (us.set i u)
  | _, _, _, .nil => .nil
  | _, _, 0, .cons _ t => .cons r t
  | _, _, i + 1, .cons q t => .cons q (Vals.set r i t)
theorem Vals.append : ∀ {xs ys : List V} {us ws : List Value}, Vals xs us → Vals ys ws → Vals (xs ++ ys) (us ++ ws)
  | _, _, _, _, .nil, s => s
  | _, _, _, _, .cons r t, s => .cons r (Vals.append t s)
def RelO : Option V → Option Value → Prop
  | some v, some u => RelV v u
  | none, none => True
  | _, _ => False
def KV {κ : Type} : List (κ × V) → List (κ × Value) → Prop := Paired fun (p : κ × V) (q : κ × Value) => p.1 = q.1 ∧ RelV p.2 q.2

/-- a key of a dict (00_mix): an int or a text -/
def kV : Key → V
  | .inl i => .int i
  | .inr x => .str x

/-- what stands at a tracked address -/
inductive HO where
  /-- a list -/
  | lst (xs : List V)
  /-- a tuple (never changes) -/
  | tup (xs : List V)
  /-- a dict whose keys are ints and texts; one whose keys are tuples of ints and texts (the empty one is both) -/
  | dK (kvs : List (Key × V)) | dT (kvs : List (List Key × V))
  /-- a set of ints: its members, its size -/
  | set (S : Int → Bool) (n : Nat)
  /-- an instance of the class at C, its dict at dx, its attributes -/
  | ins (C dx : Addr) (fs : List (Str × V))
  /-- the dict of the instance at x -/
  | own (x : Addr)
  /-- the dict of an exception -/
  | xd (fs : List (Str × V))
  /-- a bound method, f of x -/
  | met (f x : Addr)
  /-- a range object lo, lo + 1, .. below hi -/
  | rng (lo hi : Int)
  /-- a thing that is known to the object (the script; a dict while a loop walks it): read, never written while it is so -/
  | frz (o : Obj) (u : HO)
  /-- a code object's table -/
  | tbl (ps : Array Value)
  /-- a code object of a function's table -/
  | code (q : Str)
  /-- any other thing, by what is true of its one object (a def of one's own: SetO a S n := HO.ext fun h => ..) -/
  | ext (φ : Heap → Prop)

abbrev Hp := Addr → Option HO
def upd (H : Hp) (a : Addr) (o : HO) : Hp := fun b => if b = a then some o else H b
theorem upd_same {H : Hp} {a : Addr} {o : HO} : upd H a o a = some o := by unfold upd; rw [if_pos rfl]
theorem upd_ne {H : Hp} {a b : Addr} {o : HO} (h : b ≠ a) : upd H a o b = H b := by unfold upd; rw [if_neg h]
theorem upd_upd {H : Hp} {a : Addr} {o u : HO} : upd (upd H a o) a u = upd H a u := by
  funext b; unfold upd; split <;> rfl
theorem ne_of_none {H : Hp} {a b : Addr} {o : HO} (h : H a = some o) (h' : H b = none) : a ≠ b := by
  intro e; subst e; rw [h] at h'; cases h'

section
variable (P : Program) (w : World)
def ObjOk (H : Hp) (h : Heap) (a : Addr) : HO → Prop
  | .lst xs => xs.length ≤ sizeLine ∧ ∃ (its : List Value) (n : Nat), Vals xs its ∧ h.get? a = some { cls := .type "list", data := .seq its.toArray n }
  | .tup xs => xs.length ≤ sizeLine ∧ ∃ its : List Value, Vals xs its ∧ IsTup h a its.toArray
  | .dK kvs => kvs.length ≤ sizeLine ∧ (a == sysModules) = false ∧ ∃ vs, KV kvs vs ∧ h.DictOf (mixKind P w) a vs
  | .dT kvs => kvs.length ≤ sizeLine ∧ (a == sysModules) = false ∧ ∃ xs : List (List Key × Addr × Value),
      Paired (fun (p : List Key × V) (q : List Key × Addr × Value) => p.1 = q.1 ∧ H q.2.1 = some (.tup (p.1.map kV)) ∧ RelV p.2 q.2.2) kvs xs ∧
      ∃ o es ep, h.get? a = some o ∧ o.ExactDict ∧ o.data = .dict es ep ∧ es.toList = xs.map (entryOfKey (tupleKind (mixKind P w))) ∧ (xs.map (·.1)).Nodup
  | .set S n => h.SetOf (intKind P w) a S n
  | .ins C dx fs => H dx = some (.own a) ∧ fs.length ≤ 1000 ∧ dx ≠ a ∧ h.get? a = some (PySem.W.instObj C dx) ∧
      ∃ mA, h.Ns1 dx mA ∧ (∀ f, RelO (fs.lookup f) (mA f)) ∧ PySem.Within mA (fs.map (·.1))
  | .own _ => ∃ o, h.get? a = some o
  | .xd fs => ∃ mA, h.Ns1 a mA ∧ ∀ f, RelO (fs.lookup f) (mA f)
  | .rng lo hi => ∃ t u v, h.get? a = some { cls := .type "range", data := .fields #[.int lo t, .int hi u, .int 1 v] }
  | .frz o u => h.get? a = some o ∧ ObjOk H h a u
  | .tbl ps => ∃ cs : Array Value, h.get? a = some { cls := .none, data := .fields cs } ∧ TriplesOk cs.toList ∧ ∀ pos c, codeAmong pos cs.toList = some c → ∃ ca q tk, c = .ref ca ∧ ps[0]? = some (.str q tk) ∧ H ca = some (.code q)
  | .code q => ∃ o vs tk, h.get? a = some o ∧ o.data = .fields vs ∧ vs[1]? = some (.str q tk)
  | .met f x => h.get? a = some (PySem.W.methodObj (.ref f) (.ref x))
  | .ext φ => φ h ∧ (∃ o, h.get? a = some o) ∧ ∀ h1 h2 : Heap, φ h1 → (∀ o, h1.get? a = some o → h2.get? a = some o) → φ h2
/-- the abstract heap is held -/
def HOk (H : Hp) (h : Heap) : Prop := ∀ a o, H a = some o → ObjOk P w H h a o
end

section
variable {P : Program} {w : World} {H H' : Hp} {h h' : Heap} {a : Addr} {o : HO}
theorem ObjOk.lt (x : ObjOk P w H h a o) : a < h.objs.size := by
  cases o with
  | lst xs => obtain ⟨_, _, _, _, e⟩ := x; exact Heap.lt_size e
  | tup xs => obtain ⟨_, _, _, p⟩ := x; exact p.lt
  | dK kvs => obtain ⟨_, _, _, _, o, _, _, e, _⟩ := x; exact Heap.lt_size e
  | dT kvs => obtain ⟨_, _, _, _, o, _, _, e, _⟩ := x; exact Heap.lt_size e
  | set S n => obtain ⟨o, _, _, _, e, _⟩ := x; exact Heap.lt_size e
  | ins C dx fs => obtain ⟨_, _, _, e, _⟩ := x; exact Heap.lt_size e
  | own y => obtain ⟨_, e⟩ := x; exact Heap.lt_size e
  | xd fs => obtain ⟨_, ⟨_, _, _, e, _⟩, _⟩ := x; exact Heap.lt_size e
  | rng lo hi => obtain ⟨_, _, _, e⟩ := x; exact Heap.lt_size e
  | frz ob u => obtain ⟨e, _⟩ := x; exact Heap.lt_size e
  | tbl ps => obtain ⟨_, e, _⟩ := x; exact Heap.lt_size e
  | code q => obtain ⟨_, _, _, e, _⟩ := x; exact Heap.lt_size e
  | met f y => exact Heap.lt_size (show h.get? a = some _ from x)
  | ext φ => obtain ⟨_, ⟨_, e⟩, _⟩ := x; exact Heap.lt_size e
theorem Paired.mapP {α β : Type} {F G : α → β → Prop} : ∀ {l₁ : List α} {l₂ : List β}, Paired F l₁ l₂ → (∀ a b, F a b → G a b) → Paired G l₁ l₂
  | _, _, .nil, _ => .nil
  | _, _, .cons r t, f => .cons (f _ _ r) (Paired.mapP t f)
/-- what never changes: tuples, code objects -/
def Nv : HO → Prop
  | .tup _ => True
  | .code _ => True
  | _ => False
/-- what an object's description leans on: its own object, its own dict, the tuples -/
theorem ObjOk.stay (x : ObjOk P w H h a o) (k : ∀ b u, (b = a ∨ H b = some (.own a)) → h.get? b = some u → h'.get? b = some u)
    (ho : ∀ b, H b = some (.own a) → H' b = some (.own a)) (ht : ∀ b u, Nv u → H b = some u → H' b = some u) : ObjOk P w H' h' a o := by
  induction o with
  | lst xs => obtain ⟨z, its, n, r, e⟩ := x; exact ⟨z, its, n, r, k _ _ (.inl rfl) e⟩
  | tup xs => obtain ⟨z, its, r, ob, e, c⟩ := x; exact ⟨z, its, r, ob, k _ _ (.inl rfl) e, c⟩
  | dK kvs => obtain ⟨z, y, vs, r, ob, es, ep, e, c⟩ := x; exact ⟨z, y, vs, r, ob, es, ep, k _ _ (.inl rfl) e, c⟩
  | dT kvs =>
    obtain ⟨z, y, xs, r, ob, es, ep, e, c⟩ := x
    exact ⟨z, y, xs, Paired.mapP r fun p q z => ⟨z.1, ht _ _ trivial z.2.1, z.2.2⟩, ob, es, ep, k _ _ (.inl rfl) e, c⟩
  | set S n => obtain ⟨ob, es, ep, t, e, c⟩ := x; exact ⟨ob, es, ep, t, k _ _ (.inl rfl) e, c⟩
  | ins C dx fs =>
    obtain ⟨d, z, ne, e, mA, ⟨od, es, ep, e2, c⟩, r⟩ := x
    exact ⟨ho _ d, z, ne, k _ _ (.inl rfl) e, mA, ⟨od, es, ep, k _ _ (.inr d) e2, c⟩, r⟩
  | own y => obtain ⟨ob, e⟩ := x; exact ⟨ob, k _ _ (.inl rfl) e⟩
  | xd fs => obtain ⟨mA, ⟨od, es, ep, e, c⟩, r⟩ := x; exact ⟨mA, ⟨od, es, ep, k _ _ (.inl rfl) e, c⟩, r⟩
  | rng lo hi => obtain ⟨t, u, v, e⟩ := x; exact ⟨t, u, v, k _ _ (.inl rfl) e⟩
  | frz ob u ih => obtain ⟨e, q⟩ := x; exact ⟨k _ _ (.inl rfl) e, ih q⟩
  | tbl ps =>
    obtain ⟨cs, e, tr, al⟩ := x
    exact ⟨cs, k _ _ (.inl rfl) e, tr, fun pos c hc => let ⟨ca, q, tk, e1, e2, e3⟩ := al pos c hc; ⟨ca, q, tk, e1, e2, ht _ _ trivial e3⟩⟩
  | code q => obtain ⟨o, vs, tk, e, r⟩ := x; exact ⟨o, vs, tk, k _ _ (.inl rfl) e, r⟩
  | met f y =>
    have e : h.get? a = some (PySem.W.methodObj (.ref f) (.ref y)) := x
    show h'.get? a = some (PySem.W.methodObj (.ref f) (.ref y))
    exact k a _ (.inl rfl) e
  | ext φ => obtain ⟨p, ⟨o, e⟩, st⟩ := x; exact ⟨st _ _ p fun o q => k _ _ (.inl rfl) q, ⟨o, k _ _ (.inl rfl) e⟩, st⟩
theorem HOk.lt (x : HOk P w H h) (e : H a = some o) : a < h.objs.size := (x a o e).lt
theorem HOk.fresh (x : HOk P w H h) (e : h.objs.size ≤ a) : H a = none := by
  cases q : H a with
  | none => rfl
  | some u => exact absurd (Nat.lt_of_lt_of_le (x.lt q) e) (Nat.lt_irrefl _)
/-- every object of the heap is kept -/
theorem HOk.kept (x : HOk P w H h) (k : ∀ b u, h.get? b = some u → h'.get? b = some u) : HOk P w H h' := fun a o e =>
  (x a o e).stay (fun b u _ q => k b u q) (fun _ q => q) fun _ _ _ q => q
/-- a new object is laid and tracked -/
theorem HOk.laid (x : HOk P w H h) (k : ∀ b u, h.get? b = some u → h'.get? b = some u) (hp : h.objs.size ≤ a) (new : ObjOk P w (upd H a o) h' a o) : HOk P w (upd H a o) h' := fun b u e => by
  have hn := x.fresh hp
  by_cases hb : b = a
  · subst hb; rw [upd_same] at e; cases e; exact new
  · rw [upd_ne hb] at e
    exact (x b u e).stay (fun c v _ q => k c v q) (fun c q => by rw [upd_ne (ne_of_none q hn)]; exact q) fun c xs _ q => by rw [upd_ne (ne_of_none q hn)]; exact q
end

/-- what may be read as u: it is u, or a known u -/
def Rd (H : Hp) (a : Addr) (u : HO) : Prop := H a = some u ∨ ∃ o, H a = some (.frz o u)
theorem Rd.ok {P : Program} {w : World} {H : Hp} {h : Heap} {a : Addr} {u : HO} (r : Rd H a u) (x : HOk P w H h) : ObjOk P w H h a u := by
  rcases r with r | ⟨o, r⟩
  · exact x a u r
  · obtain ⟨_, q⟩ := x a _ r
    exact q
/-- what may be written -/
def Mut : Option HO → Prop
  | some (.lst _) => True
  | some (.dK _) => True
  | some (.dT _) => True
  | some (.set _ _) => True
  | some (.ins _ _ _) => True
  | some (.ext _) => True
  | _ => False
section
variable {P : Program} {w : World} {H : Hp} {h h' : Heap} {x e : Addr} {o' : HO}
/-- the object at e is changed: x itself, or the dict of the instance x -/
theorem HOk.write (ok : HOk P w H h) (mu : Mut (H x)) (he : e = x ∨ H e = some (.own x)) (k : ∀ b u, b ≠ e → h.get? b = some u → h'.get? b = some u) (heo : ∃ u, h'.get? e = some u)
    (new : ObjOk P w (upd H x o') h' x o') : HOk P w (upd H x o') h' := fun b u q => by
  have nown : ∀ c y, H c = some (.own y) → c ≠ x := fun c y r z => by subst z; rw [r] at mu; exact mu
  have ntup : ∀ c u, Nv u → H c = some u → c ≠ x := fun c u nv r z => by subst z; rw [r] at mu; cases u <;> first | exact nv.elim | exact mu.elim
  by_cases hb : b = x
  · subst hb; rw [upd_same] at q; cases q; exact new
  · rw [upd_ne hb] at q
    by_cases hbe : b = e
    · have q' : H b = some (.own x) := by
        rcases he with z | z
        · exact absurd (hbe.trans z) hb
        · rw [hbe]; exact z
      rw [q] at q'; cases q'
      obtain ⟨v, hv⟩ := heo
      exact ⟨v, by rw [hbe]; exact hv⟩
    · refine (ok b u q).stay (fun c v hc r => k c v ?_ r) (fun c r => by rw [upd_ne (nown c b r)]; exact r) fun c xs nv r => by rw [upd_ne (ntup c xs nv r)]; exact r
      rcases hc with rfl | hc
      · exact hbe
      · rintro rfl
        rcases he with z | z
        · exact nown c b hc z
        · rw [hc] at z; cases z; exact hb rfl
end

/-! ### kept unless tracked; of the frames at fs (the callers') the slots may change (an exception that passes writes there); of the records at ex (iterators) nothing is said -/
structure Un (fs ex : List Addr) (H H' : Hp) (h h' : Heap) : Prop where
  keep : ∀ b o, h.get? b = some o → H b = none → b ∉ fs → b ∉ ex → h'.get? b = some o
  slot : ∀ b o, h.get? b = some o → H b = none → b ∈ fs → b ∉ ex → ∃ sl, h'.get? b = some { o with slots := sl }
  free : ∀ b o, h.get? b = some o → H b = none → b ∉ ex → H' b = none
  there : ∀ b o, h.get? b = some o → b ∉ ex → ∃ o', h'.get? b = some o'
  tups : ∀ b xs, H b = some (.tup xs) → H' b = some (.tup xs)
  frzs : ∀ b o u, H b = some (.frz o u) → H' b = some (.frz o u)
  tbls : ∀ b ps, H b = some (.tbl ps) → ∃ more, H' b = some (.tbl (ps ++ more))
section
variable {fs fs' ex ex' : List Addr} {H H1 H2 : Hp} {h h1 h2 h' : Heap} {a x e : Addr} {o : HO}
theorem Un.any (u : Un fs ex H H1 h h1) {b : Addr} {ob : Obj} (q : h.get? b = some ob) (n : H b = none) (hx : b ∉ ex) : ∃ sl, h1.get? b = some { ob with slots := sl } := by
  by_cases hb : b ∈ fs
  · exact u.slot b ob q n hb hx
  · exact ⟨ob.slots, u.keep b ob q n hb hx⟩
theorem Un.kept (k : ∀ b u, h.get? b = some u → h'.get? b = some u) : Un fs ex H H h h' :=
  ⟨fun b ob q _ _ _ => k b ob q, fun b ob q _ _ _ => ⟨ob.slots, k b ob q⟩, fun _ _ _ n _ => n, fun b ob q _ => ⟨ob, k b ob q⟩, fun _ _ q => q, fun _ _ _ q => q, fun _ ps q => ⟨#[], by rw [q]; simp⟩⟩
theorem Un.refl : Un fs ex H H h h := Un.kept fun _ _ q => q
theorem Un.laid (k : ∀ b u, h.get? b = some u → h'.get? b = some u) (hp : h.objs.size ≤ a) (hn : H a = none) : Un fs ex H (upd H a o) h h' where
  keep := fun b u q _ _ _ => k b u q
  slot := fun b u q _ _ _ => ⟨u.slots, k b u q⟩
  free := fun b u q n _ => by rw [upd_ne (Nat.ne_of_lt (Nat.lt_of_lt_of_le (Heap.lt_size q) hp))]; exact n
  there := fun b u q _ => ⟨u, k b u q⟩
  tups := fun b xs q => by rw [upd_ne (ne_of_none q hn)]; exact q
  frzs := fun b u xs q => by rw [upd_ne (ne_of_none q hn)]; exact q
  tbls := fun b ps q => ⟨#[], by rw [upd_ne (ne_of_none q hn), q]; simp⟩
theorem Un.write (mu : Mut (H x)) (he : e = x ∨ H e = some (.own x)) (k : ∀ b u, b ≠ e → h.get? b = some u → h'.get? b = some u) (heo : ∃ u, h'.get? e = some u) : Un fs ex H (upd H x o) h h' := by
  have hx : ∀ b, H b = none → b ≠ x := fun b n z => by subst z; rw [n] at mu; exact mu
  have hb : ∀ b, H b = none → b ≠ e := fun b n z => by
    subst z
    rcases he with r | r
    · exact hx b n r
    · rw [n] at r; cases r
  have hm : ∀ b u, H b = some u → ¬ Mut (some u) → b ≠ x := fun b u q nm z => by subst z; rw [q] at mu; exact nm mu
  refine ⟨fun b u q n _ _ => k b u (hb b n) q, fun b u q n _ _ => ⟨u.slots, k b u (hb b n) q⟩, fun b u q n _ => by rw [upd_ne (hx b n)]; exact n, fun b u q _ => ?_,
    fun b xs q => by rw [upd_ne (hm b _ q fun z => z)]; exact q, fun b u xs q => by rw [upd_ne (hm b _ q fun z => z)]; exact q, fun b ps q => ⟨#[], by rw [upd_ne (hm b _ q fun z => z), q]; simp⟩⟩
  by_cases hbe : b = e
  · subst hbe; exact heo
  · exact ⟨u, k b u hbe q⟩
end

/-! ### the heap without what is tracked -/
def trk (h : Heap) (H : Hp) : List Addr := (List.range h.objs.size).filter fun a => (H a).isSome
def hidT (h : Heap) (H : Hp) : Heap := PySem.W.hideAll h (trk h H)
theorem hidT_size (h : Heap) (H : Hp) : (hidT h H).objs.size = h.objs.size := PySem.W.hideAll_size _ _
theorem hidT_get {h : Heap} {H : Hp} {b : Addr} {o : Obj} (e : h.get? b = some o) (n : H b = none) : (hidT h H).get? b = some o :=
  PySem.W.hideAll_get _ e fun hm => by
    have q : (H b).isSome = true := (List.mem_filter.mp hm).2
    rw [n] at q; simp at q
theorem of_hidT {h : Heap} {H : Hp} {b : Addr} {o : Obj} (e : (hidT h H).get? b = some o) : h.get? b = some o ∧ H b = none := by
  have e' : h.get? b = some o := PySem.W.of_hideAll (trk h H) e
  refine ⟨e', ?_⟩
  cases q : H b with
  | none => rfl
  | some x =>
    have hm : b ∈ trk h H := List.mem_filter.mpr ⟨List.mem_range.mpr (Heap.lt_size e'), by simp [q]⟩
    have z : (hidT h H).get? b = none := PySem.W.hideAll_none (trk h H) hm
    rw [z] at e; cases e

/-! ### OpenK's ledger, filled with every new object but one -/
end L2

namespace L2
open PySem PySem.Spec PyProof.Rows

/-- the module's facts, over the base: the heap at the law's entry without what is tracked there -/
def Bm (mg : Str → Option Value) (h : Heap) : Prop := ∃ bm ob, mg "__builtins__" = some (.ref bm) ∧ bm ≠ builtinsNs ∧ h.get? bm = some ob ∧ ob.cls = .type "module" ∧ ob.dict = some builtinsNs ∧ ob.data = .plain
structure Mod (K : PySem.W.Frag) (mg : Str → Option Value) (base : Heap) : Prop where
  kin : K.In base
  glob : base.Ns mainGlobals mg
  blt : ∃ mb, base.Ns builtinsNs mb ∧ ∀ x : Str, x ≠ "__name__" → mb x = bootBuiltins x
  nolimit : base.NoLimit
  bm : Bm mg base

/-- the context: a def's body (or a comprehension's block) running. base: fixed through the whole law; s₀, H₀: the entry; outer: the frames whose slots others may change (a def's callers); stack: all frames that run;
   ex: iterators that were made ahead of the entry and are walked here (a comprehension's); fn: the names whose cells were made at the entry (a def: all; a comprehension's block: its own); calm: not within an except suite; pn: pins that every state bears; xe: what is wanted of an exception that leaves the code -/
structure Cx where
  prog : Program
  w : World
  K : PySem.W.Frag
  mg : Str → Option Value
  base : Heap
  A : Around
  N : List Str
  s_0 : Shared
  H_0 : Hp
  env : Env
  outer : List Env
  stack : List Env
  ex : List Addr
  fn : Str → Bool
  calm : Bool
  pn : List (Addr × Obj)
  xe : Value → Shared → Prop
/-- the callers' frames -/
def frs (l : List Env) : List Addr := l.filterMap (·.frame)
abbrev Cx.fs (X : Cx) : List Addr := frs X.outer

def Vis (sc : Scope) (x : Str) : Prop := sc.names.lookup x = some .local ∨ sc.names.lookup x = some .cell ∨ sc.names.lookup x = some .free
def Loc (sc : Scope) (x : Str) : Prop := sc.names.lookup x = some .local ∨ sc.names.lookup x = some .cell
def Look (env : Env) (h : Heap) (m : Str → Option Value) (x : Str) (u : Value) : Prop :=
  (env.kindOf x = some .local ∧ m x = some u) ∨ ((env.kindOf x = some .cell ∨ env.kindOf x = some .free) ∧ ∃ c, env.cells.lookup x = some c ∧ h.IsCell c (some u))

structure Cx.Ok (X : Cx) : Prop where
  mod : Mod X.K X.mg X.base
  kind : X.env.scope.kind = .function
  glob : X.env.globals = mainGlobals
  blt : X.env.builtins = builtinsNs
  above : X.s_0.heap.objs.size ≤ X.env.locals
  inj : ∀ x y c, X.env.cells.lookup x = some c → X.env.cells.lookup y = some c → x = y
  has : ∀ x, (X.env.kindOf x = some .cell ∨ X.env.kindOf x = some .free) → ∃ c, X.env.cells.lookup x = some c
  cab : ∀ x c, X.fn x = true → X.env.cells.lookup x = some c → X.s_0.heap.objs.size ≤ c
  hd : X.calm = true → X.A.handled = none
  frames : X.A.frames = some X.stack
  stk : X.stack = X.outer ∨ (X.stack = X.env :: X.outer ∧ X.env.frame = some X.env.locals)
  exf : ∀ b ∈ X.ex, b ≠ X.env.locals ∧ ∀ x c, X.env.cells.lookup x = some c → c ≠ b
  bs : ∀ b o, X.base.get? b = some o → X.s_0.heap.get? b = some o ∧ X.H_0 b = none
  bsz : X.base.objs.size ≤ X.s_0.heap.objs.size
  noex : ∀ b o, X.base.get? b = some o → b ∉ X.ex
  exfs : ∀ b ∈ X.ex, b ∉ X.fs
  funs : X.s_0.heap.FunFrames X.base X.outer
  frf : ∀ b ∈ X.fs, X.H_0 b = none

structure Inv (X : Cx) (pins : List (Addr × Obj)) (σ : List (Option V)) (H : Hp) (s : Shared) : Prop where
  ok : X.Ok
  os : s.os = X.s_0.os
  bare : AllBare s.gens
  base : Un X.fs X.ex X.H_0 H X.s_0.heap s.heap
  loc : ∃ m, s.heap.Ns X.env.locals m ∧ ∀ (i : Nat) (x : Str) (v : V), X.N[i]? = some x → σ[i]? = some (some v) → Vis X.env.scope x → ∃ u, RelV v u ∧ Look X.env s.heap m x u
  cell : ∀ x c, X.env.cells.lookup x = some c → ∃ v, s.heap.IsCell c v
  free : H X.env.locals = none
  freeC : ∀ x c, X.env.cells.lookup x = some c → H c = none
  pin : ∀ p ∈ X.pn ++ pins, s.heap.get? p.1 = some p.2 ∧ H p.1 = none ∧ p.1 ≠ X.env.locals ∧ p.1 ∉ X.fs ∧ ∀ v, p.2.data ≠ .cell v
  hok : HOk X.prog X.w H s.heap
  len : σ.length = X.N.length

section
variable {X : Cx} {pins : List (Addr × Obj)} {σ : List (Option V)} {H H' : Hp} {s : Shared} {h' : Heap}

theorem Cx.Ok.nofr (ok : X.Ok) {b : Addr} {o : Obj} (e : X.base.get? b = some o) : b ∉ X.fs := fun hb => by
  have := (ok.funs.mem hb).1
  rw [e] at this; cases this
theorem Inv.bs (I : Inv X pins σ H s) : ∀ b o, X.base.get? b = some o → s.heap.get? b = some o ∧ H b = none := fun b o e =>
  ⟨I.base.keep b o (I.ok.bs b o e).1 (I.ok.bs b o e).2 (I.ok.nofr e) (I.ok.noex b o e), I.base.free b o (I.ok.bs b o e).1 (I.ok.bs b o e).2 (I.ok.noex b o e)⟩
theorem Inv.bk (I : Inv X pins σ H s) : ∀ b o, X.base.get? b = some o → s.heap.get? b = some o := fun b o e => (I.bs b o e).1
theorem Inv.mod (I : Inv X pins σ H s) : Mod X.K X.mg X.base := I.ok.mod
theorem Inv.kIn (I : Inv X pins σ H s) : X.K.In s.heap := I.ok.mod.kin.keeps I.bk
/-- the frame over the base: for OpenK's rules (K.In X.base is I.mod.kin) -/
theorem Inv.fr (I : Inv X pins σ H s) : ∃ m, Fr X.base X.env.locals s.heap m :=
  let ⟨m, hn, _⟩ := I.loc
  ⟨m, hn, I.bk, Nat.le_trans I.ok.bsz I.ok.above⟩
theorem Inv.lt (I : Inv X pins σ H s) : X.env.locals < s.heap.objs.size := let ⟨_, hn, _⟩ := I.loc; hn.lt
theorem Inv.sz (I : Inv X pins σ H s) : X.s_0.heap.objs.size ≤ s.heap.objs.size := Nat.le_trans I.ok.above (Nat.le_of_lt I.lt)
theorem Inv.nofs (I : Inv X pins σ H s) {a : Addr} (h : s.heap.objs.size ≤ a) : a ∉ X.fs := fun hb => by
  obtain ⟨_, o, ho, _⟩ := I.ok.funs.mem hb
  exact absurd (Nat.lt_of_lt_of_le (Heap.lt_size ho) (Nat.le_trans I.sz h)) (Nat.lt_irrefl _)
theorem Inv.cne (I : Inv X pins σ H s) : ∀ x c, X.env.cells.lookup x = some c → c ≠ X.env.locals := fun x c e z => by
  obtain ⟨v, o, ho, hd⟩ := I.cell x c e
  obtain ⟨m, ⟨o', es, ep, ho', hd', _⟩, _⟩ := I.loc
  rw [z, ho'] at ho; cases ho; rw [hd'] at hd; cases hd
theorem Inv.funs (I : Inv X pins σ H s) : s.heap.FunFrames X.base X.outer := by
  have all : ∀ (l : List Env), (∀ b ∈ frs l, b ∈ X.fs) → X.s_0.heap.FunFrames X.base l → s.heap.FunFrames X.base l := by
    intro l
    induction l with
    | nil => intro _ _; trivial
    | cons env r ih =>
      intro hs hl
      obtain ⟨hk, ⟨L, o, hf, hn, ho, hd⟩, hr⟩ := hl
      have hL : L ∈ X.fs := hs L (by unfold frs; rw [List.filterMap_cons, hf]; exact List.mem_cons_self)
      obtain ⟨sl, e⟩ := I.base.slot L o ho (I.ok.frf L hL) hL fun z => I.ok.exfs L z hL
      exact ⟨hk, ⟨L, _, hf, hn, e, hd⟩, ih (fun b hb => hs b (by unfold frs; rw [List.filterMap_cons, hf]; exact List.mem_cons_of_mem _ hb)) hr⟩
  exact all X.outer (fun _ hb => hb) I.ok.funs

/-- the frames that run, for a call -/
theorem Inv.stack (I : Inv X pins σ H s) : s.heap.FunFrames X.base X.stack := by
  rcases I.ok.stk with e | ⟨e, hf⟩
  · rw [e]; exact I.funs
  · rw [e]
    obtain ⟨m, hn, _⟩ := I.loc
    refine .cons (by rw [I.ok.kind]; decide) hf hn ?_ I.funs
    exact Heap.get?_none_of_le (Nat.le_trans I.ok.bsz I.ok.above)
theorem Inv.stkSub (I : Inv X pins σ H s) : ∀ b ∈ frs X.stack, b ∈ X.env.locals :: X.fs := fun b hb => by
  rcases I.ok.stk with e | ⟨e, hf⟩
  · rw [e] at hb; exact List.mem_cons_of_mem _ hb
  · rw [e] at hb
    unfold frs at hb
    rw [List.filterMap_cons, hf] at hb
    exact hb
theorem Inv.stkFree (I : Inv X pins σ H s) : ∀ b ∈ frs X.stack, H b = none := fun b hb => by
  rcases List.mem_cons.mp (I.stkSub b hb) with e | hb
  · rw [e]; exact I.free
  · obtain ⟨_, o, ho, _⟩ := I.ok.funs.mem hb
    exact I.base.free b o ho (I.ok.frf b hb) fun z => I.ok.exfs b z hb

/-- THE STEP: the untracked objects but the frame and the records at ch are kept (the callers' frames up to slots), the frame's map is kept, the new abstract heap is held -/
theorem Inv.step {g' : Array GenState} {t' : Nat} {d' : Drawn} {ch : List Addr} (I : Inv X pins σ H s)
    (hch : ∀ b ∈ ch, (b ∈ X.ex ∨ X.s_0.heap.objs.size ≤ b) ∧ b ≠ X.env.locals ∧ (∀ x c, X.env.cells.lookup x = some c → c ≠ b) ∧ ∀ p ∈ X.pn ++ pins, p.1 ≠ b)
    (keep : ∀ b o, b ≠ X.env.locals → b ∉ X.fs → b ∉ ch → s.heap.get? b = some o → H b = none → h'.get? b = some o)
    (slot : ∀ b o, b ≠ X.env.locals → b ∈ X.fs → b ∉ ch → s.heap.get? b = some o → H b = none → ∃ sl, h'.get? b = some { o with slots := sl }) (free : ∀ b o, b ∉ ch → s.heap.get? b = some o → H b = none → H' b = none)
    (there : ∀ b o, b ∉ ch → s.heap.get? b = some o → ∃ o', h'.get? b = some o')
    (tups : ∀ b xs, H b = some (.tup xs) → H' b = some (.tup xs)) (frzs : ∀ b o u, H b = some (.frz o u) → H' b = some (.frz o u)) (tbls : ∀ b ps, H b = some (.tbl ps) → ∃ more, H' b = some (.tbl (ps ++ more)))
    (ns : ∀ m, s.heap.Ns X.env.locals m → h'.Ns X.env.locals m) (hok : HOk X.prog X.w H' h') (hg : AllBare g') :
    Inv X pins σ H' { s with heap := h', gens := g', drawn := d', toks := t' } := by
  have neL : ∀ b o, X.s_0.heap.get? b = some o → b ≠ X.env.locals := fun b o e => Nat.ne_of_lt (Nat.lt_of_lt_of_le (Heap.lt_size e) I.ok.above)
  have neC : ∀ b o, X.s_0.heap.get? b = some o → b ∉ X.ex → b ∉ ch := fun b o e hx hb => by
    rcases (hch b hb).1 with z | z
    · exact hx z
    · exact absurd (Nat.lt_of_lt_of_le (Heap.lt_size e) z) (Nat.lt_irrefl _)
  have cellK : ∀ x c, X.env.cells.lookup x = some c → ∀ v, s.heap.IsCell c v → h'.IsCell c v := fun x c e v ⟨o, ho, hd⟩ => by
    have nch : c ∉ ch := fun z => (hch c z).2.2.1 x c e rfl
    by_cases hc : c ∈ X.fs
    · obtain ⟨sl, q⟩ := slot c o (I.cne x c e) hc nch ho (I.freeC x c e)
      exact ⟨_, q, hd⟩
    · exact ⟨o, keep c o (I.cne x c e) hc nch ho (I.freeC x c e), hd⟩
  refine ⟨I.ok, I.os, hg, ⟨fun b o e n hb hx => ?_, fun b o e n hb hx => ?_, fun b o e n hx => ?_, fun b o e hx => ?_, fun b xs e => tups b xs (I.base.tups b xs e), fun b o xs e => frzs b o xs (I.base.frzs b o xs e), fun b ps e => ?_⟩, ?_, fun x c e => ?_, ?_, fun x c e => ?_, fun p hp => ?_, hok, I.len⟩
  · exact keep b o (neL b o e) hb (neC b o e hx) (I.base.keep b o e n hb hx) (I.base.free b o e n hx)
  · obtain ⟨sl, e1⟩ := I.base.slot b o e n hb hx
    obtain ⟨sl', e2⟩ := slot b _ (neL b o e) hb (neC b o e hx) e1 (I.base.free b o e n hx)
    exact ⟨sl', e2⟩
  · obtain ⟨o', e1⟩ := I.base.there b o e hx
    exact free b o' (neC b o e hx) e1 (I.base.free b o e n hx)
  · obtain ⟨o', e1⟩ := I.base.there b o e hx
    exact there b o' (neC b o e hx) e1
  · obtain ⟨m1, e1⟩ := I.base.tbls b ps e
    obtain ⟨m2, e2⟩ := tbls b _ e1
    exact ⟨m1 ++ m2, by rw [e2, Array.append_assoc]⟩
  · obtain ⟨m, hn, hl⟩ := I.loc
    refine ⟨m, ns m hn, fun i x v e1 e2 e3 => ?_⟩
    obtain ⟨u, r, l⟩ := hl i x v e1 e2 e3
    refine ⟨u, r, ?_⟩
    rcases l with l | ⟨k, c, e, z⟩
    · exact .inl l
    · exact .inr ⟨k, c, e, cellK x c e _ z⟩
  · obtain ⟨v, z⟩ := I.cell x c e
    exact ⟨v, cellK x c e v z⟩
  · obtain ⟨m, ⟨o, _, _, ho, _⟩, _⟩ := I.loc
    exact free _ o (fun z => (hch _ z).2.1 rfl) ho I.free
  · obtain ⟨v, o, ho, hd⟩ := I.cell x c e
    exact free c o (fun z => (hch c z).2.2.1 x c e rfl) ho (I.freeC x c e)
  · obtain ⟨e, n, ne, nf, d⟩ := I.pin p hp
    have nch : p.1 ∉ ch := fun z => (hch p.1 z).2.2.2 p hp rfl
    exact ⟨keep p.1 p.2 ne nf nch e n, free p.1 p.2 nch e n, ne, nf, d⟩
/-- .. where the frame's own object is kept too -/
theorem Inv.un {t' : Nat} (I : Inv X pins σ H s) (u : Un X.fs [] H H' s.heap h') (hok : HOk X.prog X.w H' h') : Inv X pins σ H' { s with heap := h', toks := t' } := by
  obtain ⟨m, ⟨o, es, ep, ho, r⟩, _⟩ := id I.loc
  obtain ⟨sl, hL⟩ := u.any ho I.free (by simp)
  exact I.step (g' := s.gens) (d' := s.drawn) (ch := []) (fun _ z => nomatch z) (fun b o _ hb _ e n => u.keep b o e n hb (by simp)) (fun b o _ hb _ e n => u.slot b o e n hb (by simp)) (fun b o _ e n => u.free b o e n (by simp)) (fun b o _ e => u.there b o e (by simp)) u.tups u.frzs u.tbls (fun m' hm => by
    obtain ⟨o', es', ep', ho', r'⟩ := hm
    rw [ho] at ho'; cases ho'
    exact ⟨_, es', ep', hL, r'⟩) hok I.bare
/-- behind a call (or a comprehension's block): the slots of this frame may have changed too, the records at ch may have turned -/
theorem Inv.call {g' : Array GenState} {t' : Nat} {d' : Drawn} {ch : List Addr} (I : Inv X pins σ H s) (u : Un (frs X.stack) ch H H' s.heap h') (hok : HOk X.prog X.w H' h') (hg : AllBare g')
    (hch : ∀ b ∈ ch, (b ∈ X.ex ∨ X.s_0.heap.objs.size ≤ b) ∧ b ≠ X.env.locals ∧ (∀ x c, X.env.cells.lookup x = some c → c ≠ b) ∧ ∀ p ∈ X.pn ++ pins, p.1 ≠ b) :
    Inv X pins σ H' { s with heap := h', gens := g', drawn := d', toks := t' } := by
  obtain ⟨m, ⟨o, es, ep, ho, r⟩, _⟩ := id I.loc
  obtain ⟨sl, hL⟩ := u.any ho I.free fun z => (hch _ z).2.1 rfl
  exact I.step (ch := ch) hch (fun b o hL hb hc e n => u.keep b o e n (fun z => (List.mem_cons.mp (I.stkSub b z)).elim hL hb) hc) (fun b o _ _ hc e n => u.any e n hc) (fun b o hc e n => u.free b o e n hc) (fun b o hc e => u.there b o e hc) u.tups u.frzs u.tbls (fun m' hm => by
    obtain ⟨o', es', ep', ho', r'⟩ := hm
    rw [ho] at ho'; cases ho'
    exact ⟨_, es', ep', hL, r'⟩) hok hg
/-- an untracked record of ours (an iterator) has turned -/
theorem Inv.turned {t' : Nat} {it : Addr} (I : Inv X pins σ H s) (k : ∀ b o, b ≠ it → s.heap.get? b = some o → h'.get? b = some o) (hn : H it = none) (hL : it ≠ X.env.locals)
    (h1 : it ∈ X.ex ∨ X.s_0.heap.objs.size ≤ it) (h2 : ∀ x c, X.env.cells.lookup x = some c → c ≠ it) (h3 : ∀ p ∈ X.pn ++ pins, p.1 ≠ it) : Inv X pins σ H { s with heap := h', toks := t' } := by
  have nit : ∀ b u, H b = some u → b ≠ it := fun b u e z => by rw [z, hn] at e; cases e
  refine I.step (g' := s.gens) (d' := s.drawn) (ch := [it]) (fun b hb => ?_) (fun b o _ _ hc e _ => k b o (fun z => hc (by simp [z])) e) (fun b o _ _ hc e _ => ⟨o.slots, k b o (fun z => hc (by simp [z])) e⟩) (fun _ _ _ _ n => n)
    (fun b o hc e => ⟨o, k b o (fun z => hc (by simp [z])) e⟩) (fun _ _ e => e) (fun _ _ _ e => e) (fun b ps e => ⟨#[], by rw [e]; simp⟩) (fun m hm => ?_) (fun b u e => ?_) I.bare
  · have e : b = it := by simpa using hb
    subst e
    exact ⟨h1, hL, h2, h3⟩
  · obtain ⟨o, es, ep, ho, r⟩ := hm
    exact ⟨o, es, ep, k _ o (Ne.symm hL) ho, r⟩
  · refine (I.hok b u e).stay (fun c v hc q => k c v ?_ q) (fun _ q => q) fun _ _ _ q => q
    rcases hc with z | z
    · rw [z]; exact nit b u e
    · exact nit c _ z
theorem Inv.tok (I : Inv X pins σ H s) (t : Nat) : Inv X pins σ H { s with toks := t } := I.un (h' := s.heap) (t' := t) Un.refl I.hok
/-- all objects kept -/
theorem Inv.kept {t' : Nat} (I : Inv X pins σ H s) (k : ∀ b u, s.heap.get? b = some u → h'.get? b = some u) : Inv X pins σ H { s with heap := h', toks := t' } := I.un (Un.kept k) (I.hok.kept k)
/-- a new object laid and tracked -/
theorem Inv.laid {a : Addr} {o : HO} {t' : Nat} (I : Inv X pins σ H s) (k : ∀ b u, s.heap.get? b = some u → h'.get? b = some u) (hp : s.heap.objs.size ≤ a) (new : ObjOk X.prog X.w (upd H a o) h' a o) :
    Inv X pins σ (upd H a o) { s with heap := h', toks := t' } := I.un (Un.laid k hp (I.hok.fresh hp)) (I.hok.laid k hp new)
/-- an object written -/
theorem Inv.write {x e : Addr} {o : HO} {t' : Nat} (I : Inv X pins σ H s) (mu : Mut (H x)) (he : e = x ∨ H e = some (.own x)) (k : ∀ b u, b ≠ e → s.heap.get? b = some u → h'.get? b = some u) (heo : ∃ u, h'.get? e = some u)
    (new : ObjOk X.prog X.w (upd H x o) h' x o) : Inv X pins σ (upd H x o) { s with heap := h', toks := t' } := I.un (Un.write mu he k heo) (I.hok.write mu he k heo new)
/-- forgetting slots, pins -/
theorem Inv.weak {σ' : List (Option V)} (I : Inv X pins σ H s) (hl : σ'.length = σ.length) (w : ∀ (i : Nat) v, σ'[i]? = some (some v) → σ[i]? = some (some v)) : Inv X pins σ' H s :=
  ⟨I.ok, I.os, I.bare, I.base, let ⟨m, hn, hl'⟩ := I.loc; ⟨m, hn, fun i x v e1 e2 e3 => hl' i x v e1 (w i v e2) e3⟩, I.cell, I.free, I.freeC, I.pin, I.hok, hl.trans I.len⟩
theorem Inv.pins_of {pins' : List (Addr × Obj)} (I : Inv X pins σ H s) (h : ∀ p ∈ pins', s.heap.get? p.1 = some p.2 ∧ H p.1 = none ∧ p.1 ≠ X.env.locals ∧ p.1 ∉ X.fs ∧ ∀ v, p.2.data ≠ .cell v) : Inv X pins' σ H s :=
  ⟨I.ok, I.os, I.bare, I.base, I.loc, I.cell, I.free, I.freeC, fun p hp => (List.mem_append.mp hp).elim (fun z => I.pin p (List.mem_append_left _ z)) (h p), I.hok, I.len⟩

theorem nodup_ix {N : List Str} (hN : N.Nodup) {i j : Nat} {x : Str} (a : N[i]? = some x) (b : N[j]? = some x) : i = j := by
  obtain ⟨h1, e1⟩ := List.getElem?_eq_some_iff.mp a
  obtain ⟨h2, e2⟩ := List.getElem?_eq_some_iff.mp b
  exact (List.getElem_inj hN).mp (e1.trans e2.symm)

/-- a name is stored; what changed -/
theorem store_ok2 {M : Model} {A : Around} {E : Value → Shared → Prop} {i : Nat} {x : Str} {v : V} {u : Value} {Q : Unit → Shared → Prop} (I : Inv X pins σ H s) (hN : X.N.Nodup) (hi : X.N[i]? = some x) (hx : Loc X.env.scope x) (r : RelV v u)
    (h : ∀ s', Inv X pins (σ.set i (some v)) H s' → (∃ a, Heap.SameBut a s.heap s'.heap ∧ (a = X.env.locals ∨ X.env.cells.lookup x = some a)) → Q () s') (hf : X.fn x = true ∨ X.env.scope.names.lookup x = some .local := by first | exact .inl rfl | exact .inr rfl | assumption) : wpAny M A (storeName X.env x u) Q E s := by
  obtain ⟨m, hn, hl⟩ := id I.loc
  have hcls : (X.env.scope.kind == .class || (X.env.scope.kind == .module && X.env.locals != X.env.globals)) = false := by rw [I.ok.kind]; rfl
  have hiσ : i < σ.length := by rw [I.len]; exact (List.getElem?_eq_some_iff.mp hi).1
  have cne := I.cne
  have tracked : ∀ {a : Addr} {h' : Heap}, (∃ o, s.heap.get? a = some o ∧ H a = none) → Heap.SameBut a s.heap h' → HOk X.prog X.w H h' := fun {a h'} ha hs b ob e => by
    obtain ⟨_, _, hfree⟩ := ha
    refine (I.hok b ob e).stay (fun c w' hc q => (hs.2 c ?_).trans q) (fun _ q => q) fun _ _ _ q => q
    rintro rfl
    rcases hc with rfl | hc
    · rw [hfree] at e; cases e
    · rw [hfree] at hc; cases hc
  rcases hx with hk | hk
  · refine wpAny_storeName_local hk hn (fun h' hn' hs => ?_) hcls
    obtain ⟨oL, _, _, hoL, _⟩ := id hn
    refine h _ ⟨I.ok, I.os, I.bare, ⟨fun b o e n hb hx => ?_, fun b o e n hb hx => ?_, I.base.free, fun b o e hx => ?_, I.base.tups, I.base.frzs, I.base.tbls⟩, ⟨_, hn', fun j y v' e1 e2 e3 => ?_⟩, fun y c e => ?_, I.free, I.freeC, fun p hp => ?_, tracked ⟨oL, hoL, I.free⟩ hs, by simpa using I.len⟩ ⟨_, hs, .inl rfl⟩
    · exact (hs.2 b (Nat.ne_of_lt (Nat.lt_of_lt_of_le (Heap.lt_size e) I.ok.above))).trans (I.base.keep b o e n hb hx)
    · obtain ⟨sl, e1⟩ := I.base.slot b o e n hb hx
      exact ⟨sl, (hs.2 b (Nat.ne_of_lt (Nat.lt_of_lt_of_le (Heap.lt_size e) I.ok.above))).trans e1⟩
    · obtain ⟨o', e1⟩ := I.base.there b o e hx
      exact ⟨o', (hs.2 b (Nat.ne_of_lt (Nat.lt_of_lt_of_le (Heap.lt_size e) I.ok.above))).trans e1⟩
    · by_cases hj : j = i
      · subst hj
        rw [hi] at e1; cases e1
        rw [List.getElem?_set_self hiσ] at e2
        cases e2
        exact ⟨u, r, .inl ⟨hk, by simp⟩⟩
      · rw [List.getElem?_set_ne (Ne.symm hj)] at e2
        obtain ⟨u', r', q⟩ := hl j y v' e1 e2 e3
        refine ⟨u', r', ?_⟩
        rcases q with ⟨k, e⟩ | ⟨k, c, e, z⟩
        · refine .inl ⟨k, ?_⟩
          have : y ≠ x := fun e => hj (nodup_ix hN e1 (e ▸ hi))
          simp [this, e]
        · exact .inr ⟨k, c, e, z.sameBut hs (cne y c e)⟩
    · obtain ⟨w', z⟩ := I.cell y c e
      exact ⟨w', z.sameBut hs (cne y c e)⟩
    · obtain ⟨e, n, ne, nf, d⟩ := I.pin p hp
      exact ⟨(hs.2 p.1 ne).trans e, n, ne, nf, d⟩
  · have hfn : X.fn x = true := by
      rcases hf with z | z
      · exact z
      · rw [z] at hk; cases hk
    obtain ⟨c, hc⟩ := I.ok.has x (.inl hk)
    obtain ⟨w', z⟩ := I.cell x c hc
    refine wpAny_storeName_cell I.ok.kind hk hc z (fun h' hc' hs => ?_)
    obtain ⟨oc, hoc, hocd⟩ := id z
    refine h { s with heap := h' } ⟨I.ok, I.os, I.bare, ⟨fun b o e n hb hx => ?_, fun b o e n hb hx => ?_, I.base.free, fun b o e hx => ?_, I.base.tups, I.base.frzs, I.base.tbls⟩, ⟨m, hn.sameBut hs (Ne.symm (cne x c hc)), fun j y v' e1 e2 e3 => ?_⟩, fun y c' e => ?_, I.free, I.freeC, fun p hp => ?_, tracked ⟨oc, hoc, I.freeC x c hc⟩ hs, by simpa using I.len⟩ ⟨c, hs, .inr hc⟩
    · exact (hs.2 b (Nat.ne_of_lt (Nat.lt_of_lt_of_le (Heap.lt_size e) (I.ok.cab x c hfn hc)))).trans (I.base.keep b o e n hb hx)
    · obtain ⟨sl, e1⟩ := I.base.slot b o e n hb hx
      exact ⟨sl, (hs.2 b (Nat.ne_of_lt (Nat.lt_of_lt_of_le (Heap.lt_size e) (I.ok.cab x c hfn hc)))).trans e1⟩
    · obtain ⟨o', e1⟩ := I.base.there b o e hx
      exact ⟨o', (hs.2 b (Nat.ne_of_lt (Nat.lt_of_lt_of_le (Heap.lt_size e) (I.ok.cab x c hfn hc)))).trans e1⟩
    · by_cases hj : j = i
      · subst hj
        rw [hi] at e1; cases e1
        rw [List.getElem?_set_self hiσ] at e2
        cases e2
        exact ⟨u, r, .inr ⟨.inl hk, c, hc, hc'⟩⟩
      · rw [List.getElem?_set_ne (Ne.symm hj)] at e2
        obtain ⟨u', r', q⟩ := hl j y v' e1 e2 e3
        refine ⟨u', r', ?_⟩
        rcases q with q | ⟨k, c', e, z'⟩
        · exact .inl q
        · refine .inr ⟨k, c', e, z'.sameBut hs ?_⟩
          rintro rfl
          exact hj (nodup_ix hN e1 (I.ok.inj _ _ _ e hc ▸ hi))
    · by_cases hcc : c' = c
      · subst hcc; exact ⟨_, hc'⟩
      · obtain ⟨w2, z2⟩ := I.cell y c' e
        exact ⟨w2, z2.sameBut hs hcc⟩
    · obtain ⟨e, n, ne, nf, d⟩ := I.pin p hp
      refine ⟨(hs.2 p.1 ?_).trans e, n, ne, nf, d⟩
      intro q
      rw [q, hoc] at e
      have q' : oc = p.2 := Option.some.inj e
      exact d w' (by rw [← q']; exact hocd)
theorem store_ok {M : Model} {A : Around} {E : Value → Shared → Prop} {i : Nat} {x : Str} {v : V} {u : Value} {Q : Unit → Shared → Prop} (I : Inv X pins σ H s) (hN : X.N.Nodup) (hi : X.N[i]? = some x) (hx : Loc X.env.scope x) (r : RelV v u)
    (h : ∀ s', Inv X pins (σ.set i (some v)) H s' → Q () s') (hf : X.fn x = true ∨ X.env.scope.names.lookup x = some .local := by first | exact .inl rfl | exact .inr rfl | assumption) : wpAny M A (storeName X.env x u) Q E s :=
  store_ok2 I hN hi hx r (fun s' I' _ => h s' I') hf
/-- behind a call or a block, the state as it is -/
theorem Inv.call' {s' : Shared} {ch : List Addr} (I : Inv X pins σ H s) (ho : s'.os = s.os) (u : Un (frs X.stack) ch H H' s.heap s'.heap) (hok : HOk X.prog X.w H' s'.heap) (hg : AllBare s'.gens)
    (hch : ∀ b ∈ ch, (b ∈ X.ex ∨ X.s_0.heap.objs.size ≤ b) ∧ b ≠ X.env.locals ∧ (∀ x c, X.env.cells.lookup x = some c → c ≠ b) ∧ ∀ p ∈ X.pn ++ pins, p.1 ≠ b) : Inv X pins σ H' s' := by
  obtain ⟨h', g', d', t', o'⟩ := s'
  have e : o' = s.os := ho
  subst e
  exact I.call (g' := g') (t' := t') (d' := d') u hok hg hch
end

/-! ### the judgements -/
/-- an exception: its class, its own dict's address (where it has one), the abstract heap behind it -/
abbrev XK := Value → Option Addr → Hp → Prop
abbrev St := List (Option V)
abbrev VK := V → Hp → Prop
/-- an expression's reading; a test's; an argument list's -/
abbrev TE := St → Hp → VK → Prop
abbrev TT := St → Hp → (Bool → Hp → Prop) → Prop
abbrev TA := St → Hp → (List V → Hp → Prop) → Prop
/-- what is wanted behind a statement -/
structure Ends where
  nx : St → Hp → Prop
  rt : VK
  bk : St → Hp → Prop := fun _ _ => False
  ct : St → Hp → Prop := fun _ _ => False
abbrev TS := Ends → St → Hp → Prop

def EP (X : Cx) (pins : List (Addr × Obj)) (σ : St) (Q : VK) (u : Value) (s' : Shared) : Prop := ∃ v H', Inv X pins σ H' s' ∧ RelV v u ∧ Q v H'
def TP (X : Cx) (pins : List (Addr × Obj)) (σ : St) (Q : Bool → Hp → Prop) (b : Bool) (s' : Shared) : Prop := ∃ H', Inv X pins σ H' s' ∧ Q b H'
def AP (X : Cx) (pins : List (Addr × Obj)) (σ : St) (Q : List V → Hp → Prop) (us : List Value) (s' : Shared) : Prop := ∃ vs H', Inv X pins σ H' s' ∧ Vals vs us ∧ Q vs H'
def SP (X : Cx) (pins : List (Addr × Obj)) (D : Ends) (f : Flow) (s' : Shared) : Prop :=
  match f with
  | .next => ∃ σ' H', Inv X pins σ' H' s' ∧ D.nx σ' H'
  | .brk => ∃ σ' H', Inv X pins σ' H' s' ∧ D.bk σ' H'
  | .cont => ∃ σ' H', Inv X pins σ' H' s' ∧ D.ct σ' H'
  | .ret u => ∃ v σ' H', Inv X pins σ' H' s' ∧ RelV v u ∧ D.rt v H'

def PE (X : Cx) (e : Expr) (t : TE) : Prop :=
  ∀ (pins : List (Addr × Obj)) (s : Shared) (σ : St) (H : Hp) (Q : VK), Inv X pins σ H s → t σ H Q → wpAny (model X.prog X.w) X.A (eval e X.env) (EP X pins σ Q) X.xe s
def PT (X : Cx) (e : Expr) (t : TT) : Prop :=
  ∀ (pins : List (Addr × Obj)) (s : Shared) (σ : St) (H : Hp) (Q : Bool → Hp → Prop), Inv X pins σ H s → t σ H Q → wpAny (model X.prog X.w) X.A (isTrue e X.env (eval e X.env)) (TP X pins σ Q) X.xe s
/-- a test whatever its 'whole' is (and, or) -/
def PW (X : Cx) (e : Expr) (t : TT) : Prop :=
  ∀ (whole : Sem Value) (pins : List (Addr × Obj)) (s : Shared) (σ : St) (H : Hp) (Q : Bool → Hp → Prop), Inv X pins σ H s → t σ H Q → wpAny (model X.prog X.w) X.A (isTrue e X.env whole) (TP X pins σ Q) X.xe s
theorem PW.pt {X : Cx} {e : Expr} {t : TT} (h : PW X e t) : PT X e t := h _
/-- an argument list (no star), from the left -/
def PA (X : Cx) (es : List Expr) (t : TA) : Prop :=
  ∀ (pos : Pos) (pins : List (Addr × Obj)) (s : Shared) (σ : St) (H : Hp) (Q : List V → Hp → Prop), Inv X pins σ H s → t σ H Q → wpAny (model X.prog X.w) X.A (spliced (backTo pos (starEach es X.env))) (AP X pins σ Q) X.xe s
def PS (X : Cx) (st : Stmt) (t : TS) : Prop :=
  ∀ (pins : List (Addr × Obj)) (s : Shared) (σ : St) (H : Hp) (D : Ends), Inv X pins σ H s → t D σ H → wpAny (model X.prog X.w) X.A (exec st X.env) (SP X pins D) X.xe s
def PSs (X : Cx) (st : List Stmt) (t : TS) : Prop :=
  ∀ (pins : List (Addr × Obj)) (s : Shared) (σ : St) (H : Hp) (D : Ends), Inv X pins σ H s → t D σ H → wpAny (model X.prog X.w) X.A (execs st X.env) (SP X pins D) X.xe s
/-- weaken the end -/
theorem thn {α : Type} {t : Sem α} {Q Q' : α → Shared → Prop} {M : Model} {A : Around} {E : Value → Shared → Prop} {s : Shared} (h : wpAny M A t Q E s) (hQ : ∀ a s, Q a s → Q' a s) : wpAny M A t Q' E s := wpAny_mono h hQ fun _ _ x => x
end L2

namespace L2
open PySem PySem.Spec PyProof.Rows
section
variable {X : Cx}

/-- two expressions in a row -/
theorem bin {a b : Expr} {ta tb : TE} (ha : PE X a ta) (hb : PE X b tb) {pins : List (Addr × Obj)} {s : Shared} {σ : St} {H : Hp} {R : V → V → Hp → Prop} (I : Inv X pins σ H s) (h : ta σ H fun x H1 => tb σ H1 fun y H2 => R x y H2)
    {α : Type} {Q : α → Shared → Prop} {f : Value → Value → Sem α}
    (hf : ∀ v u s2 x y H2, Inv X pins σ H2 s2 → RelV x v → RelV y u → R x y H2 → wpAny (model X.prog X.w) X.A (f v u) Q X.xe s2) :
    wpAny (model X.prog X.w) X.A (eval a X.env) (fun v s₁ => wpAny (model X.prog X.w) X.A (eval b X.env) (fun u s₂ => wpAny (model X.prog X.w) X.A (f v u) Q X.xe s₂) X.xe s₁) X.xe s := by
  refine thn (ha pins s σ H _ I h) fun v s1 ⟨x, H1, I1, r1, q1⟩ => ?_
  refine thn (hb pins s1 σ H1 _ I1 q1) fun u s2 ⟨y, H2, I2, r2, q2⟩ => ?_
  exact hf v u s2 x y H2 I2 r1 r2 q2

/-! ### names and constants -/
def tVar (i : Nat) : TE := fun σ H Q => ∃ v, σ[i]? = some (some v) ∧ Q v H
def tC (v : V) : TE := fun _ H Q => Q v H
theorem pe_var {i : Nat} {x : Str} {pos : Pos} (hN : X.N[i]? = some x) (hv : Vis X.env.scope x) (hd : (x == ("__debug__" : Str)) = false := by decide) (hcd : (x == ("__classdict__" : Str)) = false := by decide) : PE X (.Name x pos) (tVar i) := by
  intro pins s σ H Q I h
  obtain ⟨v, e, h⟩ := h
  obtain ⟨m, hn, hl⟩ := I.loc
  obtain ⟨u, r, l⟩ := hl i x v hN e hv
  have fin : EP X pins σ Q u s := ⟨v, H, I, r, h⟩
  rcases l with ⟨hk, hm⟩ | ⟨hk, c, hc, hcell⟩
  · exact wpAny_Name (wpAny_loadName_local I.ok.kind hk hn hm fin) hd
  · rcases hk with hk | hk
    · exact wpAny_Name (wpAny_loadName_cell I.ok.kind hk hc hcell fin) hd
    · exact wpAny_Name (wpAny_loadName_free I.ok.kind hk hc hcell fin hcd) hd
theorem pe_int {i j pos} : PE X (.Constant (.int i) j pos) (tC (.int i)) := fun _ _ _ H _ I h => wpAny_Constant_int ⟨.int i, H, I.tok _, ⟨_, rfl⟩, h⟩
theorem pe_bl {b j pos} : PE X (.Constant (.bool b) j pos) (tC (.bl b)) := fun _ _ _ H _ I h => Constant_bool ⟨.bl b, H, I, rfl, h⟩
theorem pe_non {j pos} : PE X (.Constant .none j pos) (tC .non) := fun _ _ _ H _ I h => Constant_none ⟨.non, H, I, rfl, h⟩
theorem pe_str {x j pos} : PE X (.Constant (.str x) j pos) (tC (.str x)) := fun _ _ _ H _ I h => Calls.Constant_str ⟨.str x, H, I.tok _, ⟨_, rfl⟩, h⟩

/-- a global name of the def -/
def Gl (X : Cx) (x : Str) : Prop := X.env.kindOf x = some .globalImplicit
theorem ld_glob {E : Value → Shared → Prop} {pins : List (Addr × Obj)} {s : Shared} {σ : St} {H : Hp} {x : Str} {u : Value} {pos : Pos} {Q : Value → Shared → Prop} (I : Inv X pins σ H s) (hg : Gl X x) (hm : X.mg x = some u) (h : Q u s)
    (hd : (x == ("__debug__" : Str)) = false := by decide) : wpAny (model X.prog X.w) X.A (eval (.Name x pos) X.env) Q E s :=
  Calls.Name_function_global I.ok.kind hg (Calls.loadGlobal_global (by rw [I.ok.glob]; exact I.mod.glob.keeps I.bk) hm h) hd
theorem ld_blt {E : Value → Shared → Prop} {pins : List (Addr × Obj)} {s : Shared} {σ : St} {H : Hp} {x : Str} {u : Value} {pos : Pos} {Q : Value → Shared → Prop} (I : Inv X pins σ H s) (hg : Gl X x) (hm : X.mg x = none) (hv : bootBuiltins x = some u) (h : Q u s)
    (hn : x ≠ "__name__" := by decide) (hd : (x == ("__debug__" : Str)) = false := by decide) : wpAny (model X.prog X.w) X.A (eval (.Name x pos) X.env) Q E s := by
  obtain ⟨mb, h1, h2⟩ := I.mod.blt
  exact Calls.Name_function_global I.ok.kind hg (Calls.loadGlobal_builtin (by rw [I.ok.glob]; exact I.mod.glob.keeps I.bk) hm (by rw [I.ok.blt]; exact h1.keeps I.bk) ((h2 x hn).trans hv) h) hd
/-- a module's constant, a class, a function, as a value -/
theorem pe_glob {x : Str} {v : V} {u : Value} {pos : Pos} (hg : Gl X x) (hm : X.mg x = some u) (r : RelV v u) (hd : (x == ("__debug__" : Str)) = false := by decide) : PE X (.Name x pos) (tC v) :=
  fun _ _ _ H _ I h => ld_glob I hg hm ⟨v, H, I, r, h⟩ hd
theorem pe_bltn {x : Str} {v : V} {u : Value} {pos : Pos} (hg : Gl X x) (hm : X.mg x = none) (hv : bootBuiltins x = some u) (r : RelV v u) (hn : x ≠ "__name__" := by decide) (hd : (x == ("__debug__" : Str)) = false := by decide) : PE X (.Name x pos) (tC v) :=
  fun _ _ _ H _ I h => ld_blt I hg hm hv ⟨v, H, I, r, h⟩ hn hd

/-! ### arithmetic -/
variable {a b : Expr} {ta tb : TE} {pos : Pos}
/-! ### comparisons -/
def PC (X : Cx) (op : CmpOp) (a b : Expr) (t : TE) : Prop :=
  ∀ (pins : List (Addr × Obj)) (s : Shared) (σ : St) (H : Hp) (Q : VK), Inv X pins σ H s → t σ H Q →
    wpAny (model X.prog X.w) X.A (eval a X.env) (fun v s₁ => wpAny (model X.prog X.w) X.A (eval b X.env) (fun u s₂ => wpAny (model X.prog X.w) X.A (compareOp op v u) (EP X pins σ Q) X.xe s₂) X.xe s₁) X.xe s
/-- a comparison as a value, as a test -/
def tB (t : TE) : TT := fun σ H Q => t σ H fun x H1 => ∃ c, x = .bl c ∧ Q c H1
theorem pt_cmp {op : CmpOp} {t : TE} (h : PC X op a b t) (h1 : behindInMarks op b = false := by first | exact nobehind _ (by decide) (by decide) | rfl) : PT X (.Compare a [op] [b] pos) (tB t) := by
  intro pins s σ H Q I hw
  refine wpAny_isTrue_Compare1 (thn (h pins s σ H _ I hw) fun v s1 h1 => thn h1 fun u s2 h2 => thn h2 fun c s3 ⟨x, H1, I1, r1, q1⟩ => ?_) h1
  obtain ⟨d, rfl, q⟩ := q1
  cases r1
  exact wpAny_truthy_bool ⟨H1, I1, q⟩
/-- an expression whose value is a bool, as a test -/
theorem pt_val {e : Expr} {t : TE} (h : PE X e t) (he : ∀ whole, isTrue e X.env whole = (do let v ← whole; standAt e.pos; holding [v] (truthy v)) := by intro _; rfl) : PT X e (tB t) := by
  intro pins s σ H Q I hw
  refine isTrue_plain (thn (h pins s σ H _ I hw) fun v s1 ⟨x, H1, I1, r1, q1⟩ => ?_) (he _)
  obtain ⟨d, rfl, q⟩ := q1
  cases r1
  exact wpAny_truthy_bool ⟨H1, I1, q⟩

/-! ### and, or, not -/
variable {tA tB' : TT} {rest : List Expr}
def tAnd (t u : TT) : TT := fun σ H Q => t σ H fun c H1 => if c = true then u σ H1 Q else Q false H1
def tOr (t u : TT) : TT := fun σ H Q => t σ H fun c H1 => if c = true then Q true H1 else u σ H1 Q
def tNot (t : TT) : TT := fun σ H Q => t σ H fun c H1 => Q (!c) H1
theorem pw_and1 (ha : PT X a tA) : PW X (.BoolOp .And [a] pos) tA := by
  intro wh pins s σ H Q I h
  refine isTrue_and (thn (ha pins s σ H Q I h) fun c s1 e => ?_)
  cases c with
  | true => exact isTrue_and_nil e
  | false => exact e
theorem pw_or1 (ha : PT X a tA) : PW X (.BoolOp .Or [a] pos) tA := by
  intro wh pins s σ H Q I h
  refine isTrue_or (thn (ha pins s σ H Q I h) fun c s1 e => ?_)
  cases c with
  | false => exact isTrue_or_nil e
  | true => exact e
theorem pw_and (ha : PT X a tA) (hb : PW X (.BoolOp .And (b :: rest) pos) tB') : PW X (.BoolOp .And (a :: b :: rest) pos) (tAnd tA tB') := by
  intro wh pins s σ H Q I h
  refine isTrue_and (thn (ha pins s σ H _ I h) fun c s1 ⟨H1, I1, q1⟩ => ?_)
  cases c with
  | true => exact hb wh pins s1 σ H1 Q I1 q1
  | false => exact ⟨H1, I1, q1⟩
theorem pw_or (ha : PT X a tA) (hb : PW X (.BoolOp .Or (b :: rest) pos) tB') : PW X (.BoolOp .Or (a :: b :: rest) pos) (tOr tA tB') := by
  intro wh pins s σ H Q I h
  refine isTrue_or (thn (ha pins s σ H _ I h) fun c s1 ⟨H1, I1, q1⟩ => ?_)
  cases c with
  | true => exact ⟨H1, I1, q1⟩
  | false => exact hb wh pins s1 σ H1 Q I1 q1
theorem pt_not (ha : PT X a tA) : PT X (.UnaryOp .Not a pos) (tNot tA) := by
  intro pins s σ H Q I h
  exact isTrue_not (ha pins s σ H (fun c H1 => Q (!c) H1) I h)
/-- .. as values (bools) -/
def tAndV (ta tb : TE) : TE := fun σ H Q => ta σ H fun x H1 => ∃ c, x = .bl c ∧ if c = true then tb σ H1 Q else Q (.bl false) H1
theorem pe_one {op} {t : TE} (h : PE X a t) : PE X (.BoolOp op [a] pos) t := fun pins s σ H Q I hw => BoolOp_one (h pins s σ H Q I hw)
theorem pe_and (ha : PE X a ta) (hb : PE X (.BoolOp .And (b :: rest) pos) tb) : PE X (.BoolOp .And (a :: b :: rest) pos) (tAndV ta tb) := by
  intro pins s σ H Q I h
  refine BoolOp_and (thn (ha pins s σ H _ I h) fun v s1 ⟨x, H1, I1, r1, q1⟩ => ?_)
  obtain ⟨c, rfl, q1⟩ := q1
  cases r1
  refine wpAny_truthy_bool ?_
  cases c with
  | true => exact hb pins s1 σ H1 Q I1 q1
  | false => exact ⟨.bl false, H1, I1, rfl, q1⟩
end
end L2

namespace L2
open PySem PySem.Spec PyProof.Rows

/-! ### a list, a tuple that is read: tracked, frozen, or an object of the module -/
def SqL (K : PySem.W.Frag) (H : Hp) (a : Addr) (xs : List V) : Prop :=
  Rd H a (.lst xs) ∨
    ∃ (o : Obj) (its : Array Value) (n : Nat), K.lookup a = some o ∧ o.cls = .type "list" ∧ o.dict = none ∧ o.data = .seq its n ∧ its.size ≤ sizeLine ∧ Vals xs its.toList
def SqT (K : PySem.W.Frag) (H : Hp) (a : Addr) (xs : List V) : Prop :=
  Rd H a (.tup xs) ∨
    ∃ (o : Obj) (its : Array Value) (n : Nat), K.lookup a = some o ∧ o.cls = .type "tuple" ∧ o.data = .seq its n ∧ its.size ≤ sizeLine ∧ Vals xs its.toList
def absV : Value → Option V
  | .none => some .non
  | .bool b => some (.bl b)
  | .int i _ => some (.int i)
  | .str x _ => some (.str x)
  | .bytes b _ => some (.byt b)
  | .float b _ => some (.flt b)
  | .ref a => some (.ref a)
  | .type n => some (.ty n)
  | _ => none
theorem RelV.abs {x : V} {u : Value} (r : RelV x u) : absV u = some x := by
  cases x with
  | non => cases r; rfl
  | bl _ => cases r; rfl
  | int _ => obtain ⟨t, rfl⟩ := r; rfl
  | str _ => obtain ⟨t, rfl⟩ := r; rfl
  | byt _ => obtain ⟨t, rfl⟩ := r; rfl
  | flt _ => obtain ⟨t, rfl⟩ := r; rfl
  | ref _ => cases r; rfl
  | ty _ => cases r; rfl
theorem RelV.inj {x y : V} {u : Value} (r : RelV x u) (q : RelV y u) : x = y := Option.some.inj (r.abs.symm.trans q.abs)
theorem Vals.inj : ∀ {xs ys : List V} {us : List Value}, Vals xs us → Vals ys us → xs = ys
  | _, _, _, .nil, .nil => rfl
  | _, _, _, .cons r t, .cons r' t' => by rw [r.inj r', Vals.inj t t']
section
variable {X : Cx} {pins : List (Addr × Obj)} {σ : St} {H : Hp} {s : Shared} {a : Addr} {xs ys : List V}
theorem SqL.of {K : PySem.W.Frag} (h : H a = some (.lst xs)) : SqL K H a xs := .inl (.inl h)
theorem SqT.of {K : PySem.W.Frag} (h : H a = some (.tup xs)) : SqT K H a xs := .inl (.inl h)
theorem Inv.list (I : Inv X pins σ H s) (h : SqL X.K H a xs) : ∃ its : List Value, Vals xs its ∧ PlainL s.heap a its.toArray ∧ xs.length ≤ sizeLine := by
  rcases h with h | ⟨o, its, n, hk, hc, hd, hs, hz, r⟩
  · obtain ⟨z, its, n, r, e⟩ := h.ok I.hok
    exact ⟨its, r, ⟨_, n, e, rfl, rfl, rfl⟩, z⟩
  · refine ⟨its.toList, r, ⟨o, n, I.kIn a o hk, hc, hd, by simpa using hs⟩, ?_⟩
    have e := r.length
    simp only [Array.length_toList] at e
    omega
theorem Inv.tuple (I : Inv X pins σ H s) (h : SqT X.K H a xs) : ∃ its : List Value, Vals xs its ∧ IsTup s.heap a its.toArray ∧ xs.length ≤ sizeLine := by
  rcases h with h | ⟨o, its, n, hk, hc, hs, hz, r⟩
  · obtain ⟨z, its, r, p⟩ := h.ok I.hok
    exact ⟨its, r, p, z⟩
  · refine ⟨its.toList, r, ⟨o, I.kIn a o hk, hc, n, by simpa using hs⟩, ?_⟩
    have e := r.length
    simp only [Array.length_toList] at e
    omega
theorem Inv.list_inj (I : Inv X pins σ H s) (h : SqL X.K H a xs) (h' : SqL X.K H a ys) : xs = ys := by
  obtain ⟨its, r, ⟨o, n, e, _, _, d⟩, _⟩ := I.list h
  obtain ⟨its', r', ⟨o', n', e', _, _, d'⟩, _⟩ := I.list h'
  rw [e] at e'; cases e'
  rw [d] at d'
  injection d' with d1 _
  have : its = its' := by simpa using congrArg Array.toList d1
  subst this
  exact r.inj r'
end

/-! ### another wish about exceptions -/
abbrev Cx.wish (X : Cx) (E : Value → Shared → Prop) : Cx := { X with xe := E }
/-- no exception leaves -/
abbrev Cx.nox (X : Cx) : Cx := X.wish fun _ _ => False
theorem Cx.Ok.wish {X : Cx} (ok : X.Ok) (E : Value → Shared → Prop) : (X.wish E).Ok :=
  ⟨ok.mod, ok.kind, ok.glob, ok.blt, ok.above, ok.inj, ok.has, ok.cab, ok.hd, ok.frames, ok.stk, ok.exf, ok.bs, ok.bsz, ok.noex, ok.exfs, ok.funs, ok.frf⟩
theorem Cx.Ok.unwish {X : Cx} {E : Value → Shared → Prop} (ok : (X.wish E).Ok) : X.Ok :=
  ⟨ok.mod, ok.kind, ok.glob, ok.blt, ok.above, ok.inj, ok.has, ok.cab, ok.hd, ok.frames, ok.stk, ok.exf, ok.bs, ok.bsz, ok.noex, ok.exfs, ok.funs, ok.frf⟩
section
variable {X : Cx} {pins : List (Addr × Obj)} {σ : St} {H : Hp} {s : Shared} {E : Value → Shared → Prop}
theorem Inv.wish (I : Inv X pins σ H s) (E : Value → Shared → Prop) : Inv (X.wish E) pins σ H s := ⟨I.ok.wish E, I.os, I.bare, I.base, I.loc, I.cell, I.free, I.freeC, I.pin, I.hok, I.len⟩
theorem Inv.unwish (I : Inv (X.wish E) pins σ H s) : Inv X pins σ H s := ⟨I.ok.unwish, I.os, I.bare, I.base, I.loc, I.cell, I.free, I.freeC, I.pin, I.hok, I.len⟩
theorem SP.unwish {D : Ends} {f : Flow} {s' : Shared} (h : SP (X.wish E) pins D f s') : SP X pins D f s' := by
  cases f with
  | next => obtain ⟨σ', H', I, q⟩ := h; exact ⟨σ', H', I.unwish, q⟩
  | brk => obtain ⟨σ', H', I, q⟩ := h; exact ⟨σ', H', I.unwish, q⟩
  | cont => obtain ⟨σ', H', I, q⟩ := h; exact ⟨σ', H', I.unwish, q⟩
  | ret u => obtain ⟨v, σ', H', I, r, q⟩ := h; exact ⟨v, σ', H', I.unwish, r, q⟩
theorem PSs.nox {st : List Stmt} {t : TS} (h : PSs X.nox st t) : PSs X st t := fun pins s σ H D I hw =>
  wpAny_mono (h pins s σ H D (I.wish _) hw) (fun _ _ q => q.unwish) fun _ _ z => False.elim z
end

/-! ### blocks and small statements -/
section
variable {X : Cx} {st : Stmt} {rest : List Stmt} {t u : TS} {e : Expr} {te : TE} {pos : Pos}
def tNext : TS := fun D σ H => D.nx σ H
def tSeq (t u : TS) : TS := fun D σ H => t { D with nx := u D } σ H
theorem pss_nil : PSs X [] tNext := fun _ _ σ H _ I h => wpAny_execs_nil ⟨σ, H, I, h⟩
theorem pss_cons (h1 : PS X st t) (h2 : PSs X rest u) : PSs X (st :: rest) (tSeq t u) := by
  intro pins s σ H D I h
  refine wpAny_execs_cons (thn (h1 pins s σ H { D with nx := u D } I h) fun f s1 q => ?_)
  cases f with
  | next =>
    obtain ⟨σ', H', I', q⟩ := q
    exact h2 pins s1 σ' H' D I' q
  | ret v => exact q
  | brk => exact q
  | cont => exact q
theorem pss_one (h1 : PS X st t) : PSs X [st] t := by
  intro pins s σ H D I h
  refine wpAny_execs_cons (thn (h1 pins s σ H D I h) fun f s1 q => ?_)
  cases f with
  | next => exact wpAny_execs_nil q
  | ret v => exact q
  | brk => exact q
  | cont => exact q
/-- in a def's body nothing is shown -/
theorem Inv.quiet {pins : List (Addr × Obj)} {σ : St} {H : Hp} {s : Shared} (I : Inv X pins σ H s) : interactive X.env = false := by simp [interactive, I.ok.kind]
/-- an expression whose value is dropped -/
def tDrop (te : TE) : TS := fun D σ H => te σ H fun _ H1 => D.nx σ H1
theorem ps_expr (he : PE X e te) (hs : swapsWith e none pos.line X.env = pure false := by rfl) : PS X (.Expr e pos) (tDrop te) := by
  intro pins s σ H D I h
  exact wpAny_Expr_any (thn (he pins s σ H _ I h) fun v s1 ⟨x, H1, I1, r1, q1⟩ => ⟨σ, H1, I1, q1⟩) I.quiet hs
def tRet (te : TE) : TS := fun D σ H => te σ H D.rt
theorem ps_ret (he : PE X e te) : PS X (.Return (some e) pos) (tRet te) := by
  intro pins s σ H D I h
  exact wpAny_Return_some (thn (he pins s σ H _ I h) fun v s1 ⟨x, H1, I1, r1, q1⟩ => ⟨x, σ, H1, I1, r1, q1⟩)
def tIfS (c : TT) (t u : TS) : TS := fun D σ H => c σ H fun b H1 => if b = true then t D σ H1 else u D σ H1
theorem ps_if {c : Expr} {a b : List Stmt} {tc : TT} (hc : PT X c tc) (ha : PSs X a t) (hb : PSs X b u) : PS X (.If c a b pos) (tIfS tc t u) := by
  intro pins s σ H D I h
  refine wpAny_If (thn (hc pins s σ H _ I h) fun d s1 ⟨H1, I1, q1⟩ => ?_)
  cases d with
  | true => exact ha pins s1 σ H1 D I1 q1
  | false => exact hb pins s1 σ H1 D I1 q1
/-- code that the proof never comes to -/
def tNever : TS := fun _ _ _ => False
theorem ps_never : PS X st tNever := fun _ _ _ _ _ _ h => h.elim
end

/-! ### targets -/
abbrev TG := V → St → Hp → (St → Hp → Prop) → Prop
def PG (X : Cx) (target : Expr) (t : TG) : Prop :=
  ∀ (pins : List (Addr × Obj)) (s : Shared) (σ : St) (H : Hp) (v : V) (u : Value) (Q : St → Hp → Prop), Inv X pins σ H s → RelV v u → t v σ H Q →
    wpAny (model X.prog X.w) X.A (assign target X.env u) (fun _ s' => ∃ σ' H', Inv X pins σ' H' s' ∧ Q σ' H') X.xe s
/-- o[i] = v, by values -/
abbrev TSet := V → V → V → Hp → (Hp → Prop) → Prop
def PSet (X : Cx) (t : TSet) : Prop :=
  ∀ (pins : List (Addr × Obj)) (s : Shared) (σ : St) (H : Hp) (o i v : V) (ov iv u : Value) (Q : Hp → Prop), Inv X pins σ H s → RelV o ov → RelV i iv → RelV v u → t o i v H Q →
    wpAny (model X.prog X.w) X.A (setItem ov iv u) (fun _ s' => ∃ H', Inv X pins σ H' s' ∧ Q H') X.xe s
section
variable {X : Cx} {pos : Pos}
def gName (i : Nat) : TG := fun v σ H Q => Q (σ.set i (some v)) H
theorem pg_name {i : Nat} {x : Str} (hN : X.N.Nodup) (hi : X.N[i]? = some x) (hx : Loc X.env.scope x) (hf : X.fn x = true ∨ X.env.scope.names.lookup x = some .local := by first | exact .inl rfl | exact .inr rfl | assumption) : PG X (.Name x pos) (gName i) := by
  intro pins s σ H v u Q I r h
  exact wpAny_assign_Name (store_ok I hN hi hx r (fun s' I' => ⟨_, H, I', h⟩) hf)
/-- o[i] = .. -/
def gSub (to ti : TE) (t : TSet) : TG := fun v σ H Q => to σ H fun o H1 => ti σ H1 fun i H2 => t o i v H2 fun H3 => Q σ H3
theorem pg_sub {o i : Expr} {to ti : TE} {t : TSet} (ho : PE X o to) (hi : PE X i ti) (hs : PSet X t)
    (ha : ∀ v, assign (.Subscript o i pos) X.env v = (do
      let ov ← holding [v] (eval o X.env)
      let iv ← holding [v, ov] (eval i X.env)
      standAt pos
      holding [v, ov, iv] (setItem ov iv v)
      release [v, ov, iv] []) := by intro _; rfl) : PG X (.Subscript o i pos) (gSub to ti t) := by
  intro pins s σ H v u Q I r h
  rw [ha]
  refine wpAny_bind (wpAny_holding (thn (ho pins s σ H _ I h) fun ov s1 ⟨x, H1, I1, r1, q1⟩ => ?_))
  refine wpAny_bind (wpAny_holding (thn (hi pins s1 σ H1 _ I1 q1) fun iv s2 ⟨y, H2, I2, r2, q2⟩ => ?_))
  refine wpAny_bind (wpAny_standAt (wpAny_bind (wpAny_holding (thn (hs pins s2 σ H2 x y v ov iv u _ I2 r1 r2 r q2) fun _ s3 ⟨H3, I3, q3⟩ => ?_))))
  exact wpAny_release ⟨σ, H3, I3, q3⟩
/-- target = value -/
def tAsg (te : TE) (g : TG) : TS := fun D σ H => te σ H fun x H1 => g x σ H1 D.nx
theorem ps_asg {tg e : Expr} {te : TE} {g : TG} (he : PE X e te) (hg : PG X tg g) (hs : swapsWithSole [tg] e pos.line X.env = pure false := by rfl) (hw : swappedStores [tg] e X.env = pure none := by rfl)
    (h1 : (assignEach [tg] X.env).map (·.2) = [assign tg X.env] := by rfl) : PS X (.Assign [tg] e pos) (tAsg te g) := by
  intro pins s σ H D I h
  refine wpAny_Assign_stores (thn (he pins s σ H _ I h) fun v s1 ⟨x, H1, I1, r1, q1⟩ => ?_) hs hw
  rw [h1]
  exact thn (hg pins s1 σ H1 x v _ I1 r1 q1) fun _ s2 q => q
/-- name = value -/
theorem ps_set {i : Nat} {x : Str} {e : Expr} {te : TE} {pos' : Pos} (hN : X.N.Nodup) (hi : X.N[i]? = some x) (hx : Loc X.env.scope x) (he : PE X e te) (hs : swapsWith e (some (.Name x pos')) pos.line X.env = pure false := by rfl) (hf : X.fn x = true ∨ X.env.scope.names.lookup x = some .local := by first | exact .inl rfl | exact .inr rfl | assumption) :
    PS X (.Assign [.Name x pos'] e pos) (tAsg te (gName i)) := by
  intro pins s σ H D I h
  refine wpAny_Assign_Name (thn (he pins s σ H _ I h) fun v s1 ⟨y, H1, I1, r1, q1⟩ => ?_) hs
  exact store_ok I1 hN hi hx r1 (fun s2 I2 => ⟨_, H1, I2, q1⟩) hf
/-- a, b = x, y with plain local names: stored from the right; the pair itself is not tracked (the opening rows as in PyProof/Rows/TupAssign.lean:23) -/
def tPar (i j : Nat) (ta : TA) : TS := fun D σ H => ta σ H fun vs H1 => ∃ v w, vs = [v, w] ∧ D.nx ((σ.set i (some v)).set j (some w)) H1
theorem ps_par {i j : Nat} {x y : Str} {a b : Expr} {ta : TA} {px py pt : Pos} {kt k2 pt2} (hc : X.calm = true) (hN : X.N.Nodup) (hi : X.N[i]? = some x) (hj : X.N[j]? = some y) (hij : i ≠ j)
    (hx : X.env.scope.names.lookup x = some .local) (hy : X.env.scope.names.lookup y = some .local) (ha : PA X [a, b] ta)
    (hw : swappedStores [.Tuple [.Name x px, .Name y py] kt pt] (.Tuple [a, b] k2 pt2) X.env = pure (some [x, y]))
    (hs : swapsWithSole [.Tuple [.Name x px, .Name y py] kt pt] (.Tuple [a, b] k2 pt2) pos.line X.env = pure false := by rfl) :
    PS X (.Assign [.Tuple [.Name x px, .Name y py] kt pt] (.Tuple [a, b] k2 pt2) pos) (tPar i j ta) := by
  intro pins s σ H D I h
  rw [exec_Assign_arm]
  refine wpAny_bind (wpAny_standAt ?_)
  rw [hs]
  refine wpAny_bind (wpAny_pure ?_)
  rw [if_neg (by decide)]
  refine wpAny_bind (Tuple_ (thn (ha _ pins s σ H _ I h) fun us s1 ⟨vs, H1, I1, r1, q1⟩ => ?_))
  obtain ⟨v, w, e1, q1⟩ := q1
  subst e1
  obtain ⟨u1, u2, rfl, rv, rw'⟩ : ∃ u1 u2, us = [u1, u2] ∧ RelV v u1 ∧ RelV w u2 := by
    cases r1 with
    | cons p q =>
      cases q with
      | cons p' q' =>
        cases q'
        exact ⟨_, _, rfl, p, p'⟩
  refine wpAny_newObj_type ?_ (by show 2 ≤ sizeLine; decide)
  have I2 : Inv X pins σ H1 { s1 with heap := s1.heap.push { cls := .type "tuple", data := .seq [u1, u2].toArray } } := I1.kept (t' := s1.toks) fun b o e => Heap.get?_push_of_some _ e
  rw [hw]
  refine wpAny_bind (wpAny_pure ?_)
  show wpAny (model X.prog X.w) X.A (do rule "assign.swapped-stores"; let items ← unpackItems (.ref s1.heap.objs.size) 2 none; assignInOrder [fun v => bindName X.env y v, fun v => bindName X.env x v] items.reverse; pure Flow.next) _ _ _
  refine wpAny_bind (wpAny_rule (wpAny_bind (unpackItems_tuple (items := #[u1, u2]) (I.ok.hd hc) (IsTup.new s1.heap _) fun h' hx' => ?_)))
  have I3 := I2.kept (h' := h') (t' := s1.toks) fun b o e => hx' b o (Nat.ne_of_lt (Heap.lt_size e)) e
  show wpAny _ _ (assignInOrder [fun v => bindName X.env y v, fun v => bindName X.env x v] [u2, u1] >>= fun _ => pure Flow.next) _ _ _
  refine wpAny_bind (assignInOrder_cons (wpAny_bindName (store_ok I3 hN hj (.inl hy) rw' (fun s2 I4 => ?_) (.inr hy))))
  refine assignInOrder_cons (wpAny_bindName (store_ok I4 hN hi (.inl hx) rv (fun s3 I5 => assignInOrder_nil (wpAny_pure ?_)) (.inr hx)))
  rw [List.set_comm _ _ (Ne.symm hij)] at I5
  exact ⟨_, H1, I5, q1⟩
end

/-! ### while -/
section
variable {X : Cx} {pos : Pos}
end

/-! ### what a loop or a comprehension walks -/
/-- at turn i: it yields x (the heap may grow), or it stops -/
structure It where
  go : Nat → Hp → Prop
  yld : Nat → Hp → V → Hp → Prop
  stop : Nat → Hp → Prop
/-- the iterator's own objects may turn: they are not the frame's, not pinned, younger than the entry (or a comprehension's own) -/
def FpOk (X : Cx) (pins : List (Addr × Obj)) (H : Hp) (b : Addr) : Prop :=
  H b = none ∧ b ≠ X.env.locals ∧ b ∉ X.fs ∧ (b ∈ X.ex ∨ X.s_0.heap.objs.size ≤ b) ∧ (∀ x c, X.env.cells.lookup x = some c → c ≠ b) ∧ ∀ p ∈ X.pn ++ pins, p.1 ≠ b
theorem Inv.fpOk {X : Cx} {pins : List (Addr × Obj)} {σ : St} {H H' : Hp} {s : Shared} {b : Addr} (I : Inv X pins σ H s) (hb : s.heap.objs.size ≤ b) (hn : H' b = none) : FpOk X pins H' b := by
  refine ⟨hn, Nat.ne_of_gt (Nat.lt_of_lt_of_le I.lt hb), I.nofs hb, .inr (Nat.le_trans I.sz hb), fun x c e z => ?_, fun p hp z => ?_⟩
  · obtain ⟨v, q⟩ := I.cell x c e
    exact absurd (Nat.lt_of_lt_of_le q.lt (by rw [z]; exact hb)) (Nat.lt_irrefl _)
  · exact absurd (Nat.lt_of_lt_of_le (Heap.lt_size (I.pin p hp).1) (by rw [z]; exact hb)) (Nat.lt_irrefl _)
structure Turn (P : Program) (w : World) (K : PySem.W.Frag) (tg : Expr) (J : It) (fp : List Addr) (it : Addr) (tn : Nat → Heap → Prop) : Prop where
  mem : it ∈ fp
  obj : ∀ i h, tn i h → ∀ b ∈ fp, ∃ o, h.get? b = some o ∧ ∀ v, o.data ≠ .cell v
  keep : ∀ i h h', tn i h → (∀ b ∈ fp, ∀ o, h.get? b = some o → h'.get? b = some o) → tn i h'
  item : ∀ (X : Cx), X.prog = P → X.w = w → X.K = K → X.calm = true → ∀ (i : Nat) (pins : List (Addr × Obj)) (s : Shared) (σ : St) (H : Hp) (E : Value → Shared → Prop), Inv X pins σ H s → (∀ b ∈ fp, FpOk X pins H b) → tn i s.heap → J.go i H →
    wpAny (model P w) X.A (pyNext (.ref it)) (fun r s1 => ∃ u, r = some u ∧
      wpAny (model P w) X.A (letOwnedTupleGo tg (.ref it) u) (fun _ s2 => ∃ x H', Inv X pins σ H' s2 ∧ RelV x u ∧ J.yld i H x H' ∧ tn (i + 1) s2.heap ∧ ∀ b ∈ fp, H' b = none) E s1) E s
  done : ∀ (X : Cx), X.prog = P → X.w = w → X.K = K → X.calm = true → ∀ (i : Nat) (pins : List (Addr × Obj)) (s : Shared) (σ : St) (H : Hp) (E : Value → Shared → Prop), Inv X pins σ H s → (∀ b ∈ fp, FpOk X pins H b) → tn i s.heap → J.stop i H →
    wpAny (model P w) X.A (pyNext (.ref it)) (fun r s1 => r = none ∧ Inv X pins σ H s1) E s
  self : ∀ (A : Around) (i : Nat) (s : Shared) (Q : Value → Shared → Prop) (E : Value → Shared → Prop), tn i s.heap → Q (.ref it) s → wpAny (model P w) A (pyIter (.ref it)) Q E s
abbrev TI := St → Hp → (It → Hp → Prop) → Prop
/-- an iterator has come -/
def PIE (X : Cx) (pins : List (Addr × Obj)) (σ : St) (tg : Expr) (R : It → Hp → Prop) (itv : Value) (s2 : Shared) : Prop :=
  ∃ (it : Addr) (fp : List Addr) (tn : Nat → Heap → Prop) (J : It) (H' : Hp), itv = .ref it ∧ Inv X pins σ H' s2 ∧ Turn X.prog X.w X.K tg J fp it tn ∧ tn 0 s2.heap ∧ (∀ b ∈ fp, FpOk X pins H' b) ∧ R J H'
def PI (X : Cx) (tg iter : Expr) (wi : TI) : Prop :=
  ∀ (pins : List (Addr × Obj)) (s : Shared) (σ : St) (H : Hp) (R : It → Hp → Prop), Inv X pins σ H s → wi σ H R →
    wpAny (model X.prog X.w) X.A (eval iter X.env) (fun v s1 => wpAny (model X.prog X.w) X.A (pyIter v) (PIE X pins σ tg R) X.xe s1) X.xe s

/-- the step ahead of the store is nothing for an iterator that keeps no tuple -/
theorem go_of {M : Model} {A : Around} {E : Value → Shared → Prop} {s : Shared} {tg : Expr} {it : Addr} {u : Value} {o : Obj} {n : String} {vs : Array Value} {Q : Unit → Shared → Prop} (ho : s.heap.get? it = some o) (hc : o.cls = .type n) (hd : o.data = .fields vs)
    (hn : ["enumerate", "zip", "dict_itemiterator", "dict_reverseitemiterator", "odict_iterator", "itertools.zip_longest", "itertools.pairwise"].contains n = false) (hQ : Q () s) : wpAny M A (letOwnedTupleGo tg (.ref it) u) Q E s := by
  unfold letOwnedTupleGo
  cases tg <;> first
    | exact wpAny_pure hQ
    | (cases u <;> first
        | exact wpAny_pure hQ
        | (refine wpAny_bind (wpAny_load ho ?_)
           rw [hc, hd]
           show wpAny M A (if (["enumerate", "zip", "dict_itemiterator", "dict_reverseitemiterator", "odict_iterator", "itertools.zip_longest", "itertools.pairwise"].contains n && vs[0]? == some (rawInt _)) = true then _ else _) Q E s
           rw [if_neg (by intro h; rw [hn, Bool.false_and] at h; cases h)]
           exact wpAny_pure hQ))

/-- the list at a, as it stands at each turn (a loop may append to it) -/
def Itl (K : PySem.W.Frag) (a : Addr) : It :=
  ⟨fun i H => ∃ xs x, SqL K H a xs ∧ xs[i]? = some x, fun i H x H' => H' = H ∧ ∀ xs, SqL K H a xs → xs[i]? = some x, fun i H => ∃ xs, SqL K H a xs ∧ xs.length ≤ i⟩
/-- lo, lo + 1, .. (n of them) -/
def Itr (lo : Int) (n : Nat) : It := ⟨fun i _ => i < n, fun i H x H' => H' = H ∧ x = .int (lo + i), fun i _ => n ≤ i⟩
theorem turn_list {P : Program} {w : World} {K : PySem.W.Frag} {tg : Expr} (a it : Addr) : Turn P w K tg (Itl K a) [it] it (fun i h => h.IsListIter it a i) where
  mem := by simp
  obj := fun i h st b hb => by
    have e : b = it := by simpa using hb
    subst e
    obtain ⟨o, e, c, d⟩ := st
    exact ⟨o, e, fun v z => by rw [d] at z; cases z⟩
  keep := fun i h h' st k => st.at fun o e => k it (by simp) o e
  item := by
    intro X hP hw hK hc i pins s σ H E I hf st hg
    subst hP hw hK
    obtain ⟨xs, x, hq, hx⟩ := hg
    obtain ⟨its, rv, p, hz⟩ := I.list hq
    obtain ⟨u, hu, ru⟩ := rv.get hx
    obtain ⟨f0, f1, f2, f3, f4, f5⟩ := hf it (by simp)
    refine wpAny_pyNext_list_item st p.isList (x := u) (by simpa using hu) fun h' st' sb => ?_
    have I1 : Inv X pins σ H { s with heap := h' } := I.turned (t' := s.toks) (fun b o hb e => (sb.2 b hb).trans e) f0 f1 f3 f4 f5
    obtain ⟨o, e, c, d⟩ := id st'
    exact ⟨u, rfl, go_of (s := { s with heap := h' }) e c d (by decide) ⟨x, H, I1, ru, ⟨rfl, fun ys hy => by rw [I.list_inj hy hq]; exact hx⟩, st', fun b hb => (hf b hb).1⟩⟩
  done := by
    intro X hP hw hK hc i pins s σ H E I hf st hg
    subst hP hw hK
    obtain ⟨xs, hq, hx⟩ := hg
    obtain ⟨its, rv, p, hz⟩ := I.list hq
    obtain ⟨f0, f1, f2, f3, f4, f5⟩ := hf it (by simp)
    have hl := rv.length
    exact wpAny_pyNext_list_end (I.ok.hd hc) st p.isList (by simp; omega) fun h' eb => ⟨rfl, I.turned (t' := s.toks) (fun b o hb e => eb b o hb e) f0 f1 f3 f4 f5⟩
  self := fun _ _ _ _ _ st h => wpAny_pyIter_listiter st h
theorem turn_range {P : Program} {w : World} {K : PySem.W.Frag} {tg : Expr} (it : Addr) (lo : Int) (n : Nat) : Turn P w K tg (Itr lo n) [it] it (fun i h => IsRangeIter h it (lo + (i : Nat) * 1) ((n : Int) - (i : Nat)) 1) where
  mem := by simp
  obj := fun i h st b hb => by
    have e : b = it := by simpa using hb
    subst e
    exact ⟨_, st, fun v z => by
      have z' : Data.fields _ = Data.cell v := z
      cases z'⟩
  keep := fun i h h' st k => k it (by simp) _ st
  item := by
    intro X hP hw hK hc i pins s σ H E I hf st hg
    subst hP hw hK
    obtain ⟨f0, f1, f2, f3, f4, f5⟩ := hf it (by simp)
    have W := Walks.range (prog := X.prog) (w := X.w) (I.ok.hd hc) it lo 1 n
    refine W.item i s _ _ hg st fun v h' tk hv st' kk => ?_
    obtain ⟨t, rfl⟩ := hv
    have I1 : Inv X pins σ H { s with heap := h', toks := tk } := I.turned (fun b o hb e => kk b o (by simpa using hb) e) f0 f1 f3 f4 f5
    refine ⟨_, rfl, go_of (s := { s with heap := h', toks := tk }) (n := "range_iterator") st' rfl rfl (by decide) ⟨.int (lo + i), H, I1, ⟨t, ?_⟩, ⟨rfl, rfl⟩, st', fun b hb => (hf b hb).1⟩⟩
    rw [Int.mul_one]
  done := by
    intro X hP hw hK hc i pins s σ H E I hf st hg
    subst hP hw hK
    obtain ⟨f0, f1, f2, f3, f4, f5⟩ := hf it (by simp)
    exact wpAny_pyNext_range_end (I.ok.hd hc) st (by have : n ≤ i := hg; omega) fun h' eb => ⟨rfl, I.turned (t' := s.toks) (fun b o hb e => eb b o hb e) f0 f1 f3 f4 f5⟩
  self := fun _ _ _ _ _ st h => wpAny_pyIter_rangeiter st h
end L2

namespace L2
open PySem PySem.Spec PyProof.Rows
section
variable {X : Cx} {tg : Expr}
def iList (K : PySem.W.Frag) (tl : TE) : TI := fun σ H R => tl σ H fun x H1 => ∃ a, x = .ref a ∧ (∃ xs, SqL K H1 a xs) ∧ R (Itl K a) H1
theorem pi_list {l : Expr} {tl : TE} (hl : PE X l tl) : PI X tg l (iList X.K tl) := by
  intro pins s σ H R I h
  refine thn (hl pins s σ H _ I h) fun v s1 ⟨x, H1, I1, r1, q1⟩ => ?_
  obtain ⟨a, e, ⟨xs, hq⟩, q⟩ := q1
  subst e
  cases r1
  obtain ⟨its, rv, p, hz⟩ := I1.list hq
  refine wpAny_pyIter_list p.isList ?_
  refine ⟨s1.heap.objs.size, [s1.heap.objs.size], _, _, H1, rfl, I1.kept (t' := s1.toks) fun b o e => Heap.get?_push_of_some _ e, turn_list a _, ⟨_, Heap.get?_push_size _ rfl, rfl, rfl⟩, fun b hb => ?_, q⟩
  have e : b = s1.heap.objs.size := by simpa using hb
  subst e
  exact I1.fpOk (Nat.le_refl _) (I1.hok.fresh (Nat.le_refl _))
/-- a range object just made, walked -/
theorem range_it {pins : List (Addr × Obj)} {σ : St} {H : Hp} {s : Shared} {R : It → Hp → Prop} {E : Value → Shared → Prop} {lo hi : Int} {t u v : Tok} {tk : Nat} (I : Inv X pins σ H s) (h1 : -(2 ^ 62) ≤ lo) (h2 : lo < 2 ^ 62) (h3 : -(2 ^ 62) ≤ hi) (h4 : hi < 2 ^ 62)
    (q : R (Itr lo (hi - lo).toNat) H) : wpAny (model X.prog X.w) X.A (pyIter (.ref s.heap.objs.size)) (PIE X pins σ tg R) E { s with heap := s.heap.push { cls := .type "range", data := .fields #[.int lo t, .int hi u, .int 1 v] }, toks := tk } := by
  refine wpAny_pyIter_range (IsRange.new ..) (small_one h1 h2 h3 h4) ?_
  have I1 : Inv X pins σ H { s with heap := s.heap.push { cls := .type "range", data := .fields #[.int lo t, .int hi u, .int 1 v] }, toks := tk } := I.kept fun b o e => Heap.get?_push_of_some _ e
  refine ⟨(s.heap.push { cls := .type "range", data := .fields #[.int lo t, .int hi u, .int 1 v] }).objs.size, [(s.heap.push { cls := .type "range", data := .fields #[.int lo t, .int hi u, .int 1 v] }).objs.size], _, _, H, rfl,
    I1.kept (t' := tk) fun b o e => Heap.get?_push_of_some _ e, turn_range _ lo (hi - lo).toNat, ?_, fun b hb => ?_, q⟩
  · have e1 : lo + ((0 : Nat) : Int) * 1 = lo := by simp
    have e2 : (((hi - lo).toNat : Nat) : Int) - ((0 : Nat) : Int) = Builtin.Range.rangeSize lo hi 1 := by rw [rangeSize_one]; split <;> omega
    show IsRangeIter _ _ (lo + ((0 : Nat) : Int) * 1) ((((hi - lo).toNat : Nat) : Int) - ((0 : Nat) : Int)) 1
    rw [e1, e2]
    exact Heap.get?_push_size _ rfl
  · have e : b = (s.heap.push { cls := .type "range", data := .fields #[.int lo t, .int hi u, .int 1 v] }).objs.size := by simpa using hb
    subst e
    exact I1.fpOk (Nat.le_refl _) (I1.hok.fresh (Nat.le_refl _))
def iRng1 (ta : TA) : TI := fun σ H R => ta σ H fun vs H1 => ∃ j : Int, vs = [.int j] ∧ -(2 ^ 62) ≤ j ∧ j < 2 ^ 62 ∧ R (Itr 0 j.toNat) H1
theorem pi_range1 {a : Expr} {ta : TA} {p pos : Pos} (hg : Gl X "range") (hm : X.mg "range" = none) (ha : PA X [a] ta) (hs : starEach [a] X.env = [(false, eval a X.env)] := by rfl) : PI X tg (.Call (.Name "range" p) [a] [] pos) (iRng1 ta) := by
  intro pins s σ H R I h
  refine Call_ (ld_blt I hg hm boot_range (PyProof.Rows.callWith_type1 (thn (ha pos pins s σ H _ I h) fun us s1 ⟨vs, H1, I1, r1, q1⟩ => ?_) hs rfl))
  obtain ⟨j, e, q1, q2, q⟩ := q1
  subst e
  cases r1 with
  | cons r rr =>
    cases rr
    obtain ⟨t, rfl⟩ := r
    exact call_range_1 (range_it I1 (by omega) (by omega) q1 q2 (by simpa using q))
/-! ### for -/
/-- W: the invariant by the turn and a measure; N: what the body is to reach -/
def tFor (wi : TI) (g : TG) (tb : TS) : TS := fun D σ H => wi σ H fun J H1 => ∃ W : Nat → Nat → St → Hp → Prop, (∃ m, W 0 m σ H1) ∧ ∀ i m σ H, W i m σ H →
  (J.stop i H ∧ D.nx σ H) ∨ (J.go i H ∧ ∃ N : St → Hp → Prop, (∀ σ' H', N σ' H' → ∃ m', m' < m ∧ W (i + 1) m' σ' H') ∧ ∀ x H', J.yld i H x H' → g x σ H' fun σ2 H2 => tb { D with nx := N, ct := N, bk := D.nx } σ2 H2)
/-- the records at fp as they stand -/
def pinsAt (fp : List Addr) (h : Heap) : List (Addr × Obj) := fp.filterMap fun b => (h.get? b).map fun o => (b, o)
theorem mem_pinsAt {fp : List Addr} {h : Heap} {b : Addr} {o : Obj} (hb : b ∈ fp) (e : h.get? b = some o) : (b, o) ∈ pinsAt fp h := List.mem_filterMap.mpr ⟨b, hb, by rw [e]; rfl⟩
theorem of_pinsAt {fp : List Addr} {h : Heap} {p : Addr × Obj} (hp : p ∈ pinsAt fp h) : p.1 ∈ fp ∧ h.get? p.1 = some p.2 := by
  obtain ⟨b, hb, e⟩ := List.mem_filterMap.mp hp
  cases q : h.get? b with
  | none => rw [q] at e; cases e
  | some o =>
    rw [q] at e
    have e' : (b, o) = p := Option.some.inj e
    subst e'
    exact ⟨hb, q⟩
theorem Inv.pinned {pins : List (Addr × Obj)} {σ : St} {H : Hp} {s : Shared} {fp : List Addr} (I : Inv X pins σ H s) (hf : ∀ b ∈ fp, FpOk X pins H b) (ho : ∀ b ∈ fp, ∃ o, s.heap.get? b = some o ∧ ∀ v, o.data ≠ .cell v) : Inv X (pins ++ pinsAt fp s.heap) σ H s :=
  I.pins_of fun p hp => (List.mem_append.mp hp).elim (fun z => I.pin p (List.mem_append_right _ z)) fun z => by
    obtain ⟨hb, e⟩ := of_pinsAt z
    obtain ⟨f0, f1, f2, _⟩ := hf p.1 hb
    obtain ⟨o, e', d⟩ := ho p.1 hb
    rw [e] at e'; cases e'
    exact ⟨e, f0, f1, f2, d⟩
theorem Inv.unpinned {pins pl : List (Addr × Obj)} {σ : St} {H : Hp} {s : Shared} (I : Inv X (pins ++ pl) σ H s) : Inv X pins σ H s := I.pins_of fun p hp => I.pin p (List.mem_append_right _ (List.mem_append_left _ hp))
theorem ps_for {iter : Expr} {body : List Stmt} {wi : TI} {g : TG} {tb : TS} {pos : Pos} (hp : PassesOwn (model X.prog X.w) X.A X.env X.xe) (hc : X.calm = true) (hi : PI X tg iter wi) (hg : PG X tg g) (hb : PSs X body tb)
    (hs : ∀ x, foldedSetIterable iter X.env x = pure x := by intro _; rfl) : PS X (.For tg iter body [] pos) (tFor wi g tb) := by
  intro pins s σ H D I h
  refine wpAny_For (thn (hi pins s σ H _ I h) fun v s1 h1 => thn h1 fun itv s2 h2 => ?_) hs
  obtain ⟨it, fp, tn, J, H2, e, I2, T, st2, f2, W, ⟨m0, w0⟩, turn⟩ := h2
  subst e
  -- what stays true of the iterator's objects through the loop
  have stat : ∀ {H' : Hp}, (∀ b ∈ fp, H' b = none) → ∀ b ∈ fp, FpOk X pins H' b := fun hn b hb => ⟨hn b hb, (f2 b hb).2⟩
  refine codeAny_forLoop_any (fun n s' => ∃ i σ' H', Inv X pins σ' H' s' ∧ tn i s'.heap ∧ (∀ b ∈ fp, H' b = none) ∧ W i n σ' H') ?_ m0 ⟨0, σ, H2, I2, st2, fun b hb => (f2 b hb).1, w0⟩
  rintro n s3 ⟨i, σ3, H3, I3, st3, fr3, w3⟩
  rcases turn i n σ3 H3 w3 with ⟨stop, qn⟩ | ⟨go, N, hN, step⟩
  · refine wpAny_passesOwn hp (thn (T.done X rfl rfl rfl hc i pins s3 σ3 H3 X.xe I3 (stat fr3) st3 stop) fun r s4 ⟨hr, I4⟩ => ?_)
    subst hr
    exact wpAny_execs_nil ⟨σ3, H3, I4, qn⟩
  · refine wpAny_passesOwn hp (thn (T.item X rfl rfl rfl hc i pins s3 σ3 H3 X.xe I3 (stat fr3) st3 go) fun r s4 ⟨u, hr, h4⟩ => ?_)
    subst hr
    refine wpAny_passesOwn hp (thn h4 fun _ s5 ⟨x, H5, I5, r5, y5, st5, fr5⟩ => ?_)
    have I5' := I5.pinned (stat fr5) (T.obj _ _ st5)
    refine wpAny_passesOwn hp (thn (hg _ s5 σ3 H5 x u _ I5' r5 (step x H5 y5)) fun _ s6 ⟨σ6, H6, I6, q6⟩ => ?_)
    refine wpAny_passesOwn hp (thn (hb _ s6 σ6 H6 _ I6 q6) fun f s7 q7 => ?_)
    have again : ∀ {σ7 : St} {H7 : Hp}, Inv X (pins ++ pinsAt fp s5.heap) σ7 H7 s7 → N σ7 H7 → ∃ m, m < n ∧ ∃ i σ' H', Inv X pins σ' H' s7 ∧ tn i s7.heap ∧ (∀ b ∈ fp, H' b = none) ∧ W i m σ' H' := fun {σ7 H7} I7 n7 => by
      obtain ⟨m', hm, w7⟩ := hN σ7 H7 n7
      refine ⟨m', hm, i + 1, σ7, H7, I7.unpinned, T.keep _ _ _ st5 fun b hb o e => (I7.pin (b, o) (List.mem_append_right _ (List.mem_append_right _ (mem_pinsAt hb e)))).1, fun b hb => ?_, w7⟩
      obtain ⟨o, e, d⟩ := T.obj _ _ st5 b hb
      exact (I7.pin (b, o) (List.mem_append_right _ (List.mem_append_right _ (mem_pinsAt hb e)))).2.1
    cases f with
    | next => obtain ⟨σ7, H7, I7, n7⟩ := q7; exact again I7 n7
    | cont => obtain ⟨σ7, H7, I7, n7⟩ := q7; exact again I7 n7
    | brk => obtain ⟨σ7, H7, I7, q7⟩ := q7; exact ⟨σ7, H7, I7.unpinned, q7⟩
    | ret v => obtain ⟨x7, σ7, H7, I7, r7, q7⟩ := q7; exact ⟨x7, σ7, H7, I7.unpinned, r7, q7⟩
end

/-! ### the forms one uses -/
/-- over a list that the body leaves as it is -/
theorem for_list {K : PySem.W.Frag} {a : Addr} {xs : List V} {g : TG} {tb : TS} {D : Ends} {σ : St} {H : Hp} (Pv : Nat → St → Hp → Prop) (h0 : Pv 0 σ H) (hl : ∀ i σ H, i ≤ xs.length → Pv i σ H → SqL K H a xs)
    (hs : ∀ i x σ H, xs[i]? = some x → Pv i σ H → g x σ H fun σ2 H2 => tb { D with nx := Pv (i + 1), ct := Pv (i + 1), bk := D.nx } σ2 H2) (hd : ∀ σ H, Pv xs.length σ H → D.nx σ H) :
    ∃ W : Nat → Nat → St → Hp → Prop, (∃ m, W 0 m σ H) ∧ ∀ i m σ H, W i m σ H →
      ((Itl K a).stop i H ∧ D.nx σ H) ∨ ((Itl K a).go i H ∧ ∃ N : St → Hp → Prop, (∀ σ' H', N σ' H' → ∃ m', m' < m ∧ W (i + 1) m' σ' H') ∧ ∀ x H', (Itl K a).yld i H x H' → g x σ H' fun σ2 H2 => tb { D with nx := N, ct := N, bk := D.nx } σ2 H2) := by
  refine ⟨fun i m σ H => m = xs.length - i ∧ i ≤ xs.length ∧ Pv i σ H, ⟨xs.length, by simp, Nat.zero_le _, h0⟩, ?_⟩
  rintro i m σ H ⟨rfl, hi, p⟩
  have q := hl i σ H hi p
  by_cases hlt : i < xs.length
  · refine .inr ⟨⟨xs, xs[i], q, by simp [hlt]⟩, Pv (i + 1), fun σ' H' p' => ⟨xs.length - (i + 1), by omega, rfl, hlt, p'⟩, fun x H' y => ?_⟩
    obtain ⟨e, y⟩ := y
    subst e
    exact hs i x σ _ (y xs q) p
  · have e : i = xs.length := by omega
    subst e
    exact .inl ⟨⟨xs, q, Nat.le_refl _⟩, hd σ H p⟩
theorem for_range {lo : Int} {n : Nat} {g : TG} {tb : TS} {D : Ends} {σ : St} {H : Hp} (Pv : Nat → St → Hp → Prop) (h0 : Pv 0 σ H)
    (hs : ∀ i σ H, i < n → Pv i σ H → g (.int (lo + i)) σ H fun σ2 H2 => tb { D with nx := Pv (i + 1), ct := Pv (i + 1), bk := D.nx } σ2 H2) (hd : ∀ σ H, Pv n σ H → D.nx σ H) :
    ∃ W : Nat → Nat → St → Hp → Prop, (∃ m, W 0 m σ H) ∧ ∀ i m σ H, W i m σ H →
      ((Itr lo n).stop i H ∧ D.nx σ H) ∨ ((Itr lo n).go i H ∧ ∃ N : St → Hp → Prop, (∀ σ' H', N σ' H' → ∃ m', m' < m ∧ W (i + 1) m' σ' H') ∧ ∀ x H', (Itr lo n).yld i H x H' → g x σ H' fun σ2 H2 => tb { D with nx := N, ct := N, bk := D.nx } σ2 H2) := by
  refine ⟨fun i m σ H => m = n - i ∧ i ≤ n ∧ Pv i σ H, ⟨n, by simp, Nat.zero_le _, h0⟩, ?_⟩
  rintro i m σ H ⟨rfl, hi, p⟩
  by_cases hlt : i < n
  · refine .inr ⟨hlt, Pv (i + 1), fun σ' H' p' => ⟨n - (i + 1), by omega, rfl, hlt, p'⟩, fun x H' y => ?_⟩
    obtain ⟨e, y⟩ := y
    subst e y
    exact hs i σ _ hlt p
  · have e : i = n := by omega
    subst e
    exact .inl ⟨Nat.le_refl _, hd σ H p⟩
end L2

namespace L2
open PySem PySem.Spec PyProof.Rows

abbrev R2 := V → V → Hp → VK → Prop
/-- a two-place operation on values: f is binaryOp op, inplaceOp op or compareOp op -/
def OpR (X : Cx) (f : Value → Value → Sem Value) (r : R2) : Prop :=
  ∀ (pins : List (Addr × Obj)) (s : Shared) (σ : St) (H : Hp) (x y : V) (v u : Value) (Q : VK), Inv X pins σ H s → RelV x v → RelV y u → r x y H Q →
    wpAny (model X.prog X.w) X.A (f v u) (EP X pins σ Q) X.xe s
/-- a one-place operation -/
def UnR (X : Cx) (f : Value → Sem Value) (r : V → Hp → VK → Prop) : Prop :=
  ∀ (pins : List (Addr × Obj)) (s : Shared) (σ : St) (H : Hp) (x : V) (v : Value) (Q : VK), Inv X pins σ H s → RelV x v → r x H Q →
    wpAny (model X.prog X.w) X.A (f v) (EP X pins σ Q) X.xe s
/-- a call of a value that is known (a builtin, a type) with values -/
def CallR (X : Cx) (f : Value) (r : List V → Hp → VK → Prop) : Prop :=
  ∀ (pins : List (Addr × Obj)) (s : Shared) (σ : St) (H : Hp) (xs : List V) (us : List Value) (Q : VK), Inv X pins σ H s → Vals xs us → r xs H Q →
    wpAny (model X.prog X.w) X.A (call f us) (EP X pins σ Q) X.xe s
def tOp (r : R2) (ta tb : TE) : TE := fun σ H Q => ta σ H fun x H1 => tb σ H1 fun y H2 => r x y H2 Q
def tUn (r : V → Hp → VK → Prop) (ta : TE) : TE := fun σ H Q => ta σ H fun x H1 => r x H1 Q
/-- ints in, under C, and a value out -/
def rI (C : Int → Int → Prop) (g : Int → Int → V) : R2 := fun x y H Q => ∃ i j, x = .int i ∧ y = .int j ∧ C i j ∧ Q (g i j) H
def rI0 (g : Int → Int → V) : R2 := fun x y H Q => ∃ i j, x = .int i ∧ y = .int j ∧ Q (g i j) H
def rU (g : Int → V) : V → Hp → VK → Prop := fun x H Q => ∃ i, x = .int i ∧ Q (g i) H

section
variable {X : Cx} {a b c : Expr} {ta tb tc : TE} {pos : Pos}

theorem binT (ha : PE X a ta) (hb : PE X b tb) {pins : List (Addr × Obj)} {s : Shared} {σ : St} {H : Hp} {R : V → V → Hp → Prop} (I : Inv X pins σ H s)
    (h : ta σ H fun x H1 => tb σ H1 fun y H2 => R x y H2) {Q : Value → Shared → Prop} {f : Value → Value → Sem Value}
    (hf : ∀ v u s2 x y H2, Inv X pins σ H2 s2 → RelV x v → RelV y u → R x y H2 → wpAny (model X.prog X.w) X.A (f v u) Q X.xe s2) :
    wpAny (model X.prog X.w) X.A (eval a X.env) (fun v s₁ => wpAny (model X.prog X.w) X.A (eval b X.env) (fun u s₂ => wpAny (model X.prog X.w) X.A (f v u) Q X.xe s₂) X.xe s₁) X.xe s := by
  refine thn (ha pins s σ H _ I h) fun v s1 ⟨x, H1, I1, r1, q1⟩ => ?_
  refine thn (hb pins s1 σ H1 _ I1 q1) fun u s2 ⟨y, H2, I2, r2, q2⟩ => ?_
  exact hf v u s2 x y H2 I2 r1 r2 q2

theorem pe_op {op : Operator} {r : R2} (ho : OpR X (binaryOp op) r) (ha : PE X a ta) (hb : PE X b tb) : PE X (.BinOp a op b pos) (tOp r ta tb) := by
  intro pins s σ H Q I h
  exact wpAny_BinOp (binT ha hb I h fun v u s2 x y H2 I2 rx ry q => ho pins s2 σ H2 x y v u Q I2 rx ry q)
theorem pe_un {op : UnaryOp} {r : V → Hp → VK → Prop} (ho : UnR X (unaryOp op) r) (ha : PE X a ta) : PE X (.UnaryOp op a pos) (tUn r ta) := by
  intro pins s σ H Q I h
  exact UnaryOp_ (thn (ha pins s σ H _ I h) fun v s1 ⟨x, H1, I1, r1, q1⟩ => ho pins s1 σ H1 x v Q I1 r1 q1)
/-! ### ints -/
theorem opI {f : Value → Value → Sem Value} {C : Int → Int → Prop} {g : Int → Int → Int}
    (rule : ∀ (i j : Int) (t u : Tok) (s : Shared) (Q : Value → Shared → Prop) (E : Value → Shared → Prop), C i j → Q (.int (g i j) s.toks) { s with toks := s.toks + 1 } → wpAny (model X.prog X.w) X.A (f (.int i t) (.int j u)) Q E s) :
    OpR X f (rI C fun i j => .int (g i j)) := by
  intro pins s σ H x y v u Q I rx ry h
  obtain ⟨i, j, rfl, rfl, hc, q⟩ := h
  obtain ⟨t, rfl⟩ := rx
  obtain ⟨t', rfl⟩ := ry
  exact rule i j t t' s _ _ hc ⟨.int (g i j), H, I.tok _, ⟨_, rfl⟩, q⟩
theorem opI0 {f : Value → Value → Sem Value} {g : Int → Int → Int}
    (rule : ∀ (i j : Int) (t u : Tok) (s : Shared) (Q : Value → Shared → Prop) (E : Value → Shared → Prop), Q (.int (g i j) s.toks) { s with toks := s.toks + 1 } → wpAny (model X.prog X.w) X.A (f (.int i t) (.int j u)) Q E s) :
    OpR X f (rI0 fun i j => .int (g i j)) := by
  intro pins s σ H x y v u Q I rx ry h
  obtain ⟨i, j, rfl, rfl, q⟩ := h
  obtain ⟨t, rfl⟩ := rx
  obtain ⟨t', rfl⟩ := ry
  exact rule i j t t' s _ _ ⟨.int (g i j), H, I.tok _, ⟨_, rfl⟩, q⟩
theorem opB0 {f : Value → Value → Sem Value} {g : Int → Int → Bool}
    (rule : ∀ (i j : Int) (t u : Tok) (s : Shared) (Q : Value → Shared → Prop) (E : Value → Shared → Prop), Q (.bool (g i j)) s → wpAny (model X.prog X.w) X.A (f (.int i t) (.int j u)) Q E s) :
    OpR X f (rI0 fun i j => .bl (g i j)) := by
  intro pins s σ H x y v u Q I rx ry h
  obtain ⟨i, j, rfl, rfl, q⟩ := h
  obtain ⟨t, rfl⟩ := rx
  obtain ⟨t', rfl⟩ := ry
  exact rule i j t t' s _ _ ⟨.bl (g i j), H, I, rfl, q⟩

def CDiv (i j : Int) : Prop := 0 < j ∧ j < 1073741824
def CPow (i j : Int) : Prop := 0 ≤ j ∧ j ≤ 1000000 ∧ i.natAbs < 2 ^ 64
def CMul (i j : Int) : Prop := (-(2 ^ 64) < i ∧ i < 2 ^ 64) ∨ (-(2 ^ 64) < j ∧ j < 2 ^ 64)
theorem CMul.ok {i j : Int} (h : CMul i j) : IntMulOk i j := by
  rcases h with ⟨h1, h2⟩ | ⟨h1, h2⟩
  · exact .of_left (intBits_le_64 h1 h2)
  · exact .of_right (intBits_le_64 h1 h2)
theorem op_add : OpR X (binaryOp .Add) (rI0 fun i j => .int (i + j)) := opI0 fun _ _ _ _ _ _ _ q => add_int q
theorem op_sub : OpR X (binaryOp .Sub) (rI0 fun i j => .int (i - j)) := opI0 fun _ _ _ _ _ _ _ q => sub_int q
theorem op_mul : OpR X (binaryOp .Mult) (rI CMul fun i j => .int (i * j)) := opI fun _ _ _ _ _ _ _ hc q => mul_int q hc.ok
/-- // by a positive divisor -/
theorem op_fdiv : OpR X (binaryOp .FloorDiv) (rI CDiv fun i j => .int (i / j)) := opI fun i j _ _ _ _ _ hc q => by
  have h1 : (0 : Int) < j := hc.1
  have h2 : j < 1073741824 := hc.2
  exact floordiv_int (by omega) (by rw [Int.fdiv_eq_ediv_of_nonneg i (by omega)]; exact q) (.inl (PyProof.noPylong_small (by omega)))
/-- % by a positive divisor of any size -/
theorem op_mod : OpR X (binaryOp .Mod) (rI (fun _ j => 0 < j) fun i j => .int (i % j)) := opI fun i j _ _ _ _ _ hc q => by
  have h1 : (0 : Int) < j := hc
  exact mod_int' (by omega) (by rw [Int.fmod_eq_emod_of_nonneg i (by omega)]; exact q)
theorem op_pow : OpR X (binaryOp .Pow) (rI CPow fun i j => .int (i ^ j.toNat)) := opI fun _ _ _ _ _ _ _ hc q => pow_int_small hc.1 hc.2.1 hc.2.2 q
theorem unI {f : Value → Sem Value} {g : Int → Int}
    (rule : ∀ (i : Int) (t : Tok) (s : Shared) (Q : Value → Shared → Prop) (E : Value → Shared → Prop), Q (.int (g i) s.toks) { s with toks := s.toks + 1 } → wpAny (model X.prog X.w) X.A (f (.int i t)) Q E s) :
    UnR X f (rU fun i => .int (g i)) := by
  intro pins s σ H x v Q I rx h
  obtain ⟨i, rfl, q⟩ := h
  obtain ⟨t, rfl⟩ := rx
  exact rule i t s _ _ ⟨.int (g i), H, I.tok _, ⟨_, rfl⟩, q⟩
theorem un_neg : UnR X (unaryOp .USub) (rU fun i => .int (-i)) := unI fun _ _ _ _ _ q => neg_int q
/-! ### bools among ints: n += (a < b) -/
end

/-! ### comparisons -/
/-- the scalars that == tells apart as data does -/
def scal : V → V → Bool
  | .non, .non => true | .non, .int _ => true | .int _, .non => true | .non, .bl _ => true | .bl _, .non => true | .non, .str _ => true | .str _, .non => true
  | .int _, .int _ => true | .bl _, .bl _ => true | .str _, .str _ => true | .byt _, .byt _ => true
  | .int _, .str _ => true | .str _, .int _ => true | .bl _, .str _ => true | .str _, .bl _ => true
  | _, _ => false
def rEq : R2 := fun x y H Q => scal x y = true ∧ Q (.bl (decide (x = y))) H
def rNe : R2 := fun x y H Q => scal x y = true ∧ Q (.bl (!decide (x = y))) H

theorem dec_int {i j : Int} : decide (V.int i = V.int j) = (i == j) := by
  rw [Bool.eq_iff_iff]
  simp
theorem dec_bl {i j : Bool} : decide (V.bl i = V.bl j) = (i == j) := by
  rw [Bool.eq_iff_iff]
  simp
theorem dec_str {i j : Str} : decide (V.str i = V.str j) = (i == j) := by
  rw [Bool.eq_iff_iff]
  simp
theorem dec_byt {i j : Array UInt8} : decide (V.byt i = V.byt j) = (i.toList == j.toList) := by
  rw [Bool.eq_iff_iff]
  cases i
  cases j
  simp

section
variable {X : Cx} {a b c : Expr} {ta tb tc : TE} {pos : Pos}
theorem fin_bl {pins : List (Addr × Obj)} {σ : St} {H : Hp} {s : Shared} {Q : VK} {k k' : Bool} (I : Inv X pins σ H s) (q : Q (.bl k) H) (e : k = k') : EP X pins σ Q (.bool k') s := by
  subst e
  exact ⟨.bl k, H, I, rfl, q⟩
theorem op_eq : OpR X (compareOp .Eq) rEq := by
  intro pins s σ H x y v u Q I rx ry h
  obtain ⟨hs, q⟩ := h
  cases x with
  | non =>
    cases rx
    cases y with
    | non => cases ry; exact PySem.EqNone.eq_none_none (fin_bl I q (by simp))
    | bl j => cases ry; exact PySem.EqNone.eq_none_bool (fin_bl I q (by simp))
    | int j => obtain ⟨t', rfl⟩ := ry; exact PySem.EqNone.eq_none_int (fin_bl I q (by simp))
    | str j => obtain ⟨t', rfl⟩ := ry; exact PySem.EqNone.eq_none_str (fin_bl I q (by simp))
    | _ => exact absurd (show false = true from hs) Bool.false_ne_true
  | bl i =>
    cases rx
    cases y with
    | non => cases ry; exact PySem.EqNone.eq_bool_none (fin_bl I q (by simp))
    | bl j => cases ry; exact eq_bool (fin_bl I q dec_bl)
    | str j => obtain ⟨t', rfl⟩ := ry; exact PySem.EqMixed.eq_bool_str (fin_bl I q (by simp))
    | _ => exact absurd (show false = true from hs) Bool.false_ne_true
  | int i =>
    obtain ⟨t, rfl⟩ := rx
    cases y with
    | non => cases ry; exact PySem.EqNone.eq_int_none (fin_bl I q (by simp))
    | int j => obtain ⟨t', rfl⟩ := ry; exact eq_int (fin_bl I q dec_int)
    | str j => obtain ⟨t', rfl⟩ := ry; exact PySem.EqMixed.eq_int_str (fin_bl I q (by simp))
    | _ => exact absurd (show false = true from hs) Bool.false_ne_true
  | str i =>
    obtain ⟨t, rfl⟩ := rx
    cases y with
    | non => cases ry; exact PySem.EqNone.eq_str_none (fin_bl I q (by simp))
    | bl j => cases ry; exact PySem.EqMixed.eq_str_bool (fin_bl I q (by simp))
    | int j => obtain ⟨t', rfl⟩ := ry; exact PySem.EqMixed.eq_str_int (fin_bl I q (by simp))
    | str j => obtain ⟨t', rfl⟩ := ry; exact eq_str (fin_bl I q dec_str)
    | _ => exact absurd (show false = true from hs) Bool.false_ne_true
  | byt i =>
    obtain ⟨t, rfl⟩ := rx
    cases y with
    | byt j => obtain ⟨t', rfl⟩ := ry; exact PySem.W.eq_bytes (fin_bl I q dec_byt)
    | _ => exact absurd (show false = true from hs) Bool.false_ne_true
  | _ => cases y <;> exact absurd (show false = true from hs) Bool.false_ne_true
theorem op_ne : OpR X (compareOp .NotEq) rNe := by
  intro pins s σ H x y v u Q I rx ry h
  obtain ⟨hs, q⟩ := h
  cases x with
  | non =>
    cases rx
    cases y with
    | non => cases ry; exact PySem.EqNone.ne_none_none (fin_bl I q (by simp))
    | bl j => cases ry; exact PySem.EqNone.ne_none_bool (fin_bl I q (by simp))
    | int j => obtain ⟨t', rfl⟩ := ry; exact PySem.EqNone.ne_none_int (fin_bl I q (by simp))
    | str j => obtain ⟨t', rfl⟩ := ry; exact PySem.EqNone.ne_none_str (fin_bl I q (by simp))
    | _ => exact absurd (show false = true from hs) Bool.false_ne_true
  | bl i =>
    cases rx
    cases y with
    | non => cases ry; exact PySem.EqNone.ne_bool_none (fin_bl I q (by simp))
    | bl j => cases ry; exact ne_bool (fin_bl I q (congrArg not dec_bl))
    | str j => obtain ⟨t', rfl⟩ := ry; exact PySem.EqMixed.ne_bool_str (fin_bl I q (by simp))
    | _ => exact absurd (show false = true from hs) Bool.false_ne_true
  | int i =>
    obtain ⟨t, rfl⟩ := rx
    cases y with
    | non => cases ry; exact PySem.EqNone.ne_int_none (fin_bl I q (by simp))
    | int j => obtain ⟨t', rfl⟩ := ry; exact ne_int (fin_bl I q (congrArg not dec_int))
    | str j => obtain ⟨t', rfl⟩ := ry; exact PySem.EqMixed.ne_int_str (fin_bl I q (by simp))
    | _ => exact absurd (show false = true from hs) Bool.false_ne_true
  | str i =>
    obtain ⟨t, rfl⟩ := rx
    cases y with
    | non => cases ry; exact PySem.EqNone.ne_str_none (fin_bl I q (by simp))
    | bl j => cases ry; exact PySem.EqMixed.ne_str_bool (fin_bl I q (by simp))
    | int j => obtain ⟨t', rfl⟩ := ry; exact PySem.EqMixed.ne_str_int (fin_bl I q (by simp))
    | str j => obtain ⟨t', rfl⟩ := ry; exact ne_str (fin_bl I q (congrArg not dec_str))
    | _ => exact absurd (show false = true from hs) Bool.false_ne_true
  | byt i =>
    obtain ⟨t, rfl⟩ := rx
    cases y with
    | byt j => obtain ⟨t', rfl⟩ := ry; exact PySem.W.ne_bytes (fin_bl I q (congrArg not dec_byt))
    | _ => exact absurd (show false = true from hs) Bool.false_ne_true
  | _ => cases y <;> exact absurd (show false = true from hs) Bool.false_ne_true

theorem op_lt : OpR X (compareOp .Lt) (rI0 fun i j => .bl (decide (i < j))) := opB0 fun _ _ _ _ _ _ _ q => lt_int q
theorem op_gt : OpR X (compareOp .Gt) (rI0 fun i j => .bl (decide (j < i))) := opB0 fun _ _ _ _ _ _ _ q => gt_int q
theorem nomark (b : Expr) {op : CmpOp} (h : op ≠ .In := by decide) (h2 : op ≠ .NotIn := by decide) : behindInMarks op b = false := by
  have e1 : (op == CmpOp.In) = false := by cases op <;> first | rfl | exact absurd rfl h
  have e2 : (op == CmpOp.NotIn) = false := by cases op <;> first | rfl | exact absurd rfl h2
  cases b <;> simp [behindInMarks, e1, e2]
/-- a comparison as a value; hm: nomark b, or (for in, not in) by with_unfolding_all rfl -/
theorem pe_cmpR {op : CmpOp} {r : R2} (ho : OpR X (compareOp op) r) (ha : PE X a ta) (hb : PE X b tb) (hm : behindInMarks op b = false) : PE X (.Compare a [op] [b] pos) (tOp r ta tb) := by
  intro pins s σ H Q I h
  exact wpAny_Compare1 (binT ha hb I h fun v u s2 x y H2 I2 rx ry q => ho pins s2 σ H2 x y v u Q I2 rx ry q) hm
/-- a reading of a value as a test -/
def tTest (t : TE) : TT := fun σ H Q => t σ H fun x H' => ∃ k, x = .bl k ∧ Q k H'
theorem pt_cmpR {op : CmpOp} {r : R2} (ho : OpR X (compareOp op) r) (ha : PE X a ta) (hb : PE X b tb) (hm : behindInMarks op b = false) : PT X (.Compare a [op] [b] pos) (tTest (tOp r ta tb)) := by
  intro pins s σ H Q I h
  refine wpAny_isTrue_Compare1 (thn (ha pins s σ H _ I h) fun v s1 ⟨x, H1, I1, r1, q1⟩ => thn (hb pins s1 σ H1 _ I1 q1) fun u s2 ⟨y, H2, I2, r2, q2⟩ =>
    thn (ho pins s2 σ H2 x y v u _ I2 r1 r2 q2) fun c s3 ⟨z, H3, I3, r3, k, e, q3⟩ => ?_) hm
  subst e
  cases r3
  exact wpAny_truthy_bool ⟨H3, I3, q3⟩
/-! ### truth -/
theorem line63 : (sizeLine : Nat) < 2 ^ 63 := by rw [sizeLine_eq]; decide
/-! ### strs and bytes -/
theorem op_add_str : OpR X (binaryOp .Add) (fun x y H Q => ∃ i j, x = .str i ∧ y = .str j ∧ i.length + j.length ≤ sizeLine ∧ Q (.str (i ++ j)) H) := by
  intro pins s σ H x y v u Q I rx ry h
  obtain ⟨i, j, rfl, rfl, hz, q⟩ := h
  obtain ⟨t, rfl⟩ := rx
  obtain ⟨t', rfl⟩ := ry
  exact add_str (fun t' tk => ⟨.str (i ++ j), H, I.tok _, ⟨_, rfl⟩, q⟩) hz
def PlainIxT (b : Expr) : Prop := ∀ o i, subscripted b false o i = operate [o, i] (getItem o i)
/-- s[i], 0 ≤ i < len -/
theorem pe_item_str (ha : PE X a ta) (hb : PE X b tb) (hs : PlainIxT b) :
    PE X (.Subscript a b pos) (tOp (fun x y H Q => ∃ z i c, x = .str z ∧ y = .int i ∧ 0 ≤ i ∧ i < 2 ^ 63 ∧ i < z.length ∧ z.cps[i.toNat]? = some c ∧ Q (.str ⟨#[c]⟩) H) ta tb) := by
  intro pins s σ H Q I h
  refine Subscript_ (binT ha hb I h fun v u s2 x y H2 I2 rx ry q => ?_)
  obtain ⟨z, i, c, rfl, rfl, h0, h63, h1, hc, q⟩ := q
  obtain ⟨t, rfl⟩ := rx
  obtain ⟨t', rfl⟩ := ry
  have e : seqIndex? i z.length = some i.toNat := PySem.StrLaws.seqIndex_nonneg h0 h1
  exact tail_any (typeIs_str s2 z t) slot_str_getitem.lookup (getItem_str (c := c) (by
    have e1 : decide (i < -(2 ^ 63 : Int)) = false := decide_eq_false (by omega)
    have e2 : decide (i ≥ 2 ^ 63) = false := decide_eq_false (by omega)
    rw [e1, e2] <;> rfl) (by rw [e]; exact hc) ⟨.str ⟨#[c]⟩, H2, I2.tok _, ⟨_, rfl⟩, q⟩) (hs _ _)
/-! ### scalar builtins, by CallR -/
theorem vals1 {x : V} {us : List Value} (r : Vals [x] us) : ∃ u, us = [u] ∧ RelV x u := by
  cases r with
  | cons r1 r2 => cases r2; exact ⟨_, rfl, r1⟩
theorem vals2 {x y : V} {us : List Value} (r : Vals [x, y] us) : ∃ u w', us = [u, w'] ∧ RelV x u ∧ RelV y w' := by
  cases r with
  | cons r1 r2 =>
    cases r2 with
    | cons r3 r4 => cases r4; exact ⟨_, _, rfl, r1, r3⟩
theorem call_max2 (hc : X.calm = true) : CallR X (.builtin "max") (fun xs H Q => ∃ i j, xs = [.int i, .int j] ∧ Q (.int (if j > i then j else i)) H) := by
  intro pins s σ H xs us Q I r h
  obtain ⟨i, j, rfl, q⟩ := h
  obtain ⟨u, w', rfl, ⟨t, rfl⟩, ⟨t', rfl⟩⟩ := vals2 r
  refine max_two_ints (I.ok.hd hc) fun h' tk k => ⟨_, H, I.kept k, ?_, q⟩
  by_cases hj : j > i
  · rw [if_pos hj, if_pos hj]; exact ⟨_, rfl⟩
  · rw [if_neg hj, if_neg hj]; exact ⟨_, rfl⟩
theorem call_min2 (hc : X.calm = true) : CallR X (.builtin "min") (fun xs H Q => ∃ i j, xs = [.int i, .int j] ∧ Q (.int (if j < i then j else i)) H) := by
  intro pins s σ H xs us Q I r h
  obtain ⟨i, j, rfl, q⟩ := h
  obtain ⟨u, w', rfl, ⟨t, rfl⟩, ⟨t', rfl⟩⟩ := vals2 r
  refine min_two_ints (I.ok.hd hc) fun h' tk k => ⟨_, H, I.kept k, ?_, q⟩
  by_cases hj : j < i
  · rw [if_pos hj, if_pos hj]; exact ⟨_, rfl⟩
  · rw [if_neg hj, if_neg hj]; exact ⟨_, rfl⟩
end
end L2

namespace L2
open PySem PySem.Spec PyProof.Rows

/-! ### an instance, its attributes a map -/
structure ObjM (h : Heap) (x dx C : Addr) (mA : Str → Option Value) : Prop where
  obj : h.get? x = some (PySem.W.instObj C dx)
  ns : h.Ns1 dx mA
  ne : dx ≠ x

theorem lookIn_ns {h : Heap} {dx : Addr} {mA : Str → Option Value} (n : h.Ns1 dx mA) : ∃ od, h.get? dx = some od ∧ ∀ name, PySem.W.lookIn name od = some (mA name) := by
  obtain ⟨o, es, ep, ho, hd, hk, _, hm⟩ := n
  refine ⟨o, ho, fun name => ?_⟩
  have e := hm name
  unfold nsFind findBy at e
  rw [← Array.find?_toList] at e
  unfold PySem.W.lookIn
  rw [hd]
  dsimp only
  split
  · rename_i y q
    rw [q] at e
    exact congrArg some e
  · rename_i q
    rw [q] at e
    have a : es.toList.any (·.refKey) = false := by
      rw [List.any_eq_false]
      intro y hy
      obtain ⟨z, t, hkey⟩ := hk y (Array.mem_toList_iff.mp hy)
      simp [DictEntry.refKey, hkey]
    have a' : ¬ es.toList.any (·.refKey) = true := by rw [a]; exact Bool.false_ne_true
    rw [if_neg a']
    exact congrArg some e

theorem ObjM.look {h : Heap} {x dx C : Addr} {mA : Str → Option Value} (I : ObjM h x dx C mA) : ∃ od, PySem.W.InstAt h x (PySem.W.instObj C dx) C (some od) ∧ ∀ name, PySem.W.lookIn name od = some (mA name) :=
  let ⟨od, ho, hl⟩ := lookIn_ns I.ns
  ⟨od, ⟨I.obj, rfl, rfl, ho⟩, hl⟩

section
variable {prog : Program} {w : World} {A : Around} {E : Value → Shared → Prop} {s : Shared} {K : PySem.W.Frag} {x dx C f : Addr} {mA : Str → Option Value} {name : Str} {v : Value}

end

/-! ### the attributes as a list of pairs -/
section
variable {P : Program} {w : World} {H H' : Hp} {h h' : Heap} {a C dx : Addr} {fs fs' : List (Str × V)}
theorem ins_get (hok : HOk P w H h) (e : H a = some (.ins C dx fs)) : ∃ mA, ObjM h a dx C mA ∧ (∀ f, RelO (fs.lookup f) (mA f)) ∧ PySem.Within mA (fs.map (·.1)) ∧ fs.length ≤ 1000 ∧ H dx = some (.own a) := by
  obtain ⟨d, z, ne, ob, mA, n, r, q⟩ := (show ObjOk P w H h a (.ins C dx fs) from hok a _ e)
  exact ⟨mA, ⟨ob, n, ne⟩, r, q, z, d⟩
end

/-! ### what of the text a class must have -/
structure Cls (K : PySem.W.Frag) (C : Addr) : Prop where
  pg : PySem.W.plainGet K C Str.empty = true
  hd : PySem.W.hasDictIn K C = true
  po : PySem.W.plainOver K C = true
  sa : PySem.W.findIn K (.ref C) "__setattr__" = some (some (.builtin "object.__setattr__"))
theorem Cls.get {K : PySem.W.Frag} {C : Addr} (c : Cls K C) (f : Str) : PySem.W.plainGet K C f = true := c.pg
section
variable {X : Cx} {pins : List (Addr × Obj)} {σ : St} {H : Hp} {s : Shared} {a C dx : Addr} {fs : List (Str × V)} {f : Str} {v : V} {A : Around} {E : Value → Shared → Prop}

end

/-! ### readings and rules -/
section
variable {X : Cx} {o e value : Expr} {f : Str} {pos pos' tpos : Pos} {ta tv : TE}
end

/-! ### isinstance -/
section
variable {X : Cx} {pins : List (Addr × Obj)} {σ : St} {H : Hp} {s : Shared} {A : Around} {E : Value → Shared → Prop} {Q : Value → Shared → Prop} {c : Value} {b : Bool}
/-- the type of a value, as the fragment's deciders take it; for an instance its class -/
inductive TyOf (K : PySem.W.Frag) (H : Hp) : V → Value → Prop where
  | non : TyOf K H .non (.type "NoneType")
  | bl (x : Bool) : TyOf K H (.bl x) (.type "bool")
  | int (i : Int) : TyOf K H (.int i) (.type "int")
  | str (x : Str) : TyOf K H (.str x) (.type "str")
  | flt (x : UInt64) : TyOf K H (.flt x) (.type "float")
  | lst {a : Addr} {xs : List V} (e : H a = some (.lst xs)) : TyOf K H (.ref a) (.type "list")
  | frz {a : Addr} {o : Obj} {xs : List V} (e : H a = some (.frz o (.lst xs))) : TyOf K H (.ref a) (.type "list")
  | tup {a : Addr} {xs : List V} (e : H a = some (.tup xs)) : TyOf K H (.ref a) (.type "tuple")
  | dK {a : Addr} {kvs : List (Key × V)} (e : H a = some (.dK kvs)) : TyOf K H (.ref a) (.type "dict")
  | dT {a : Addr} {kvs : List (List Key × V)} (e : H a = some (.dT kvs)) : TyOf K H (.ref a) (.type "dict")
  | ins {a C dx : Addr} {fs : List (Str × V)} (e : H a = some (.ins C dx fs)) (cl : Cls K C) (ha : PySem.W.findIn K (.ref C) "__class__" = some (some (.builtin "object.__class__")))
      (hn : PySem.W.specialIn K (.builtin "object.__class__") "__get__" = some (some (.builtin "getset_descriptor.__get__"))) (htk : PySem.W.takesIn K (.builtin "object.__class__") = some true)
      (hm : PySem.W.mroIn K C (.type "object") = some true) : TyOf K H (.ref a) (.ref C)
/-- isinstance(x, c) for one class c, a built-in or an own one: kitOne's answer -/
theorem isinst_ok {x : V} {u t : Value} (I : Inv X pins σ H s) (rx : RelV x u) (ty : TyOf X.K H x t) (e : PySem.W.kitOne X.K t c = some b) (h : ∀ tk, Q (.bool b) { s with toks := tk }) :
    wpAny (model X.prog X.w) A (call (.builtin "isinstance") [u, c]) Q E s := by
  cases ty with
  | non => cases (show u = Value.none from rx); exact PySem.W.kia_one PySem.W.kitx_none I.kIn True.intro e (fun z => nomatch z) h
  | bl y => cases (show u = Value.bool y from rx); exact PySem.W.kia_one PySem.W.kitx_bool I.kIn True.intro e (fun z => nomatch z) h
  | int i => obtain ⟨t, q⟩ := (show ∃ t, u = Value.int i t from rx); cases q; exact PySem.W.kia_one PySem.W.kitx_int I.kIn True.intro e (fun z => nomatch z) h
  | str y => obtain ⟨t, q⟩ := (show ∃ t, u = Value.str y t from rx); cases q; exact PySem.W.kia_one PySem.W.kitx_str I.kIn True.intro e (fun z => nomatch z) h
  | flt y => obtain ⟨t, q⟩ := (show ∃ t, u = Value.float y t from rx); cases q; exact PySem.W.kia_one PySem.W.kitx_float I.kIn True.intro e (fun z => nomatch z) h
  | @lst a xs ea =>
    cases (show u = Value.ref a from rx)
    obtain ⟨_, _, n, _, h1⟩ := (show ObjOk X.prog X.w H s.heap a (.lst xs) from I.hok a _ ea)
    exact PySem.W.kia_one PySem.W.kitx_list I.kIn ⟨_, h1, rfl⟩ e (fun z => nomatch z) h
  | @frz a ob xs ea =>
    cases (show u = Value.ref a from rx)
    obtain ⟨_, _, _, n, _, h1⟩ := (show ObjOk X.prog X.w H s.heap a (.frz ob (.lst xs)) from I.hok a _ ea)
    exact PySem.W.kia_one PySem.W.kitx_list I.kIn ⟨_, h1, rfl⟩ e (fun z => nomatch z) h
  | @tup a xs ea =>
    cases (show u = Value.ref a from rx)
    obtain ⟨_, _, _, p⟩ := (show ObjOk X.prog X.w H s.heap a (.tup xs) from I.hok a _ ea)
    obtain ⟨o, h1, h2, _⟩ := p
    exact PySem.W.kia_one PySem.W.kitx_tuple I.kIn ⟨o, h1, h2⟩ e (fun z => nomatch z) h
  | @dK a kvs ea =>
    cases (show u = Value.ref a from rx)
    obtain ⟨_, _, vs, _, p⟩ := (show ObjOk X.prog X.w H s.heap a (.dK kvs) from I.hok a _ ea)
    obtain ⟨o, es, ep, h1, h2, _⟩ := p
    exact PySem.W.kia_one PySem.W.kitx_dict I.kIn ⟨o, h1, h2.1⟩ e (fun z => nomatch z) h
  | @dT a kvs ea =>
    cases (show u = Value.ref a from rx)
    obtain ⟨_, _, xs, _, o, es, ep, h1, h2, _⟩ := (show ObjOk X.prog X.w H s.heap a (.dT kvs) from I.hok a _ ea)
    exact PySem.W.kia_one PySem.W.kitx_dict I.kIn ⟨o, h1, h2.1⟩ e (fun z => nomatch z) h
  | @ins a C dx fs ea cl ha hn htk hm =>
    cases (show u = Value.ref a from rx)
    obtain ⟨mA, O, _⟩ := ins_get I.hok ea
    obtain ⟨od, J, _⟩ := O.look
    exact PySem.W.kia_one (PySem.W.kitx_own (cl.get _) cl.hd ha hn htk hm) I.kIn J e (fun z => nomatch z) h
end
end L2

namespace L2
open PySem PySem.Spec PyProof.Rows

/-! ### room -/
structure Room (k : Nat) (A : Around) : Prop where
  hd : A.handled = none
  dp : A.depth + 3 * k + 5 < recursionLimit
  un : A.units + 16 * k + 200 < cLine
  gd : A.guards = some []
theorem Room.mono {j k : Nat} {A : Around} (r : Room k A) (h : j ≤ k) : Room j A := ⟨r.hd, by have := r.dp; omega, by have := r.un; omega, r.gd⟩
theorem Room.deeper {k : Nat} {A : Around} (r : Room (k + 1) A) (env : Env) : Room k (A.deeper env) :=
  ⟨r.hd, by have := r.dp; show A.depth + 1 + 3 * k + 5 < _; omega, by have := r.un; show A.units + 3 + 16 * k + 200 < _; omega, r.gd⟩
theorem Room.depth {k : Nat} {A : Around} (r : Room k A) : A.depth < recursionLimit := by have := r.dp; omega
theorem Room.units {k : Nat} {A : Around} (r : Room k A) : A.units + 64 < cLine := by have := r.un; omega
/-! ### argument lists and displays -/
def tNil : TA := fun _ H Q => Q [] H
def tCons (ta : TE) (tr : TA) : TA := fun σ H Q => ta σ H fun x H1 => tr σ H1 fun xs H2 => Q (x :: xs) H2
section
variable {X : Cx} {e : Expr} {es : List Expr} {te : TE} {t : TA} {pos : Pos}
theorem pa_nil : PA X [] tNil := fun _ _ _ _ H Q I h => Calls.spliced_nil ⟨[], H, I, .nil, h⟩
theorem pa_cons (ha : PE X e te) (hr : PA X es t) (hs : starEach (e :: es) X.env = (false, eval e X.env) :: starEach es X.env := by rfl) : PA X (e :: es) (tCons te t) := by
  intro pos pins s σ H Q I h
  rw [hs]
  show wpAny _ _ (spliced ((false, eval e X.env) :: backTo pos (starEach es X.env))) _ _ s
  refine Calls.spliced_cons (thn (ha pins s σ H _ I h) fun u s1 ⟨x, H1, I1, r1, q1⟩ => ?_)
  exact thn (hr pos pins s1 σ H1 _ I1 q1) fun us s2 ⟨xs, H2, I2, r2, q2⟩ => ⟨x :: xs, H2, I2, .cons r1 r2, q2⟩

/-- a tuple, a list of written items -/
def tTup (t : TA) : TE := fun σ H Q => t σ H fun xs H1 => xs.length ≤ sizeLine ∧ ∀ p, H1 p = none → Q (.ref p) (upd H1 p (.tup xs))
def tLst (t : TA) : TE := fun σ H Q => t σ H fun xs H1 => xs.length ≤ sizeLine ∧ ∀ p, H1 p = none → Q (.ref p) (upd H1 p (.lst xs))
theorem pe_tup {x1} (h : PA X es t) : PE X (.Tuple es x1 pos) (tTup t) := by
  intro pins s σ H Q I hq
  refine wpAny_Tuple_spliced (thn (h pos pins s σ H _ I hq) fun us s1 ⟨xs, H1, I1, r, z, q⟩ => ⟨by rw [← r.length]; exact z, ?_⟩)
  have hf : H1 s1.heap.objs.size = none := I1.hok.fresh (Nat.le_refl _)
  refine ⟨.ref s1.heap.objs.size, upd H1 s1.heap.objs.size (.tup xs), I1.laid (t' := s1.toks) (fun b u e => Heap.get?_push_of_some _ e) (Nat.le_refl _) ?_, rfl, q _ hf⟩
  exact ⟨z, us, r, ⟨_, Heap.get?_push_size _ rfl, rfl, _, rfl⟩⟩
theorem pe_lst (h : PA X es t) : PE X (.List es pos) (tLst t) := by
  intro pins s σ H Q I hq
  refine wpAny_List_spliced (thn (h pos pins s σ H _ I hq) fun us s1 ⟨xs, H1, I1, r, z, q⟩ => ⟨by rw [← r.length]; exact z, ?_⟩)
  have hf : H1 s1.heap.objs.size = none := I1.hok.fresh (Nat.le_refl _)
  refine ⟨.ref s1.heap.objs.size, upd H1 s1.heap.objs.size (.lst xs), I1.laid (t' := s1.toks) (fun b u e => Heap.get?_push_of_some _ e) (Nat.le_refl _) ?_, rfl, q _ hf⟩
  exact ⟨z, us, 0, r, Heap.get?_push_size _ rfl⟩
end

/-! ### what a def promises -/
/-- a def's promise: the bound arguments in the parameters' order, the heap, the wanted end, the wanted exception -/
abbrev Sp := List V → Hp → VK → XK → Prop
/-- how an exception lies behind a call (file 08 gives it): the callers' frames, abstract heap and state ahead of the call, the wish, the exception, the state -/
abbrev CXT := List Env → Hp → Shared → XK → Value → Shared → Prop

/-- the state at a call -/
structure Env0 (P : Program) (w : World) (K : PySem.W.Frag) (mg : Str → Option Value) (base : Heap) (A : Around) (outer : List Env) (s : Shared) (H : Hp) : Prop where
  frames : A.frames = some outer
  mod : Mod K mg base
  bs : ∀ b o, base.get? b = some o → s.heap.get? b = some o ∧ H b = none
  bsz : base.objs.size ≤ s.heap.objs.size
  funs : s.heap.FunFrames base outer
  frf : ∀ b ∈ frs outer, H b = none
  hok : HOk P w H s.heap
  bare : AllBare s.gens
/-- a call's end -/
def CE (outer : List Env) (P : Program) (w : World) (H : Hp) (s : Shared) (Q : VK) (u : Value) (s' : Shared) : Prop :=
  ∃ v H', s'.os = s.os ∧ AllBare s'.gens ∧ Un (frs outer) [] H H' s.heap s'.heap ∧ HOk P w H' s'.heap ∧ RelV v u ∧ Q v H'
def CR (CX : CXT) (outer : List Env) (P : Program) (w : World) (H : Hp) (s : Shared) (Q : VK) (E : XK) (r : Result) (s' : Shared) : Prop :=
  match r with
  | .ok (.ret u) => CE outer P w H s Q u s'
  | .ok _ => False
  | .error e => CX outer H s E e s'
structure FnOk (P : Program) (w : World) (K : PySem.W.Frag) (mg : Str → Option Value) (base : Heap) (CX : CXT) (k : Nat) (f : Addr) (fd : FuncData) (ps : List Str) (sp : Sp) : Prop where
  len : ∀ vs H Q E, sp vs H Q E → vs.length = ps.length
  run : ∀ (A : Around) (outer : List Env) (s : Shared) (H : Hp) (args : Args) (us : List Value) (vs : List V) (Q : VK) (E : XK), Room k A → Env0 P w K mg base A outer s H → BindsTo s fd args (ps.zip us) → Vals vs us → sp vs H Q E →
    codeAny (model P w) A (.call (.ref f) args) (CR CX outer P w H s Q E) s
section
variable {X : Cx} {pins : List (Addr × Obj)} {σ : St} {H : Hp} {s s' : Shared}
/-- from a body: what a callee wants -/
theorem Inv.env0 (I : Inv X pins σ H s) : Env0 X.prog X.w X.K X.mg X.base X.A X.stack s H :=
  ⟨I.ok.frames, I.ok.mod, I.bs, Nat.le_trans I.ok.bsz I.sz, I.stack, I.stkFree, I.hok, I.bare⟩
/-- behind a call -/
theorem Inv.after {Q : VK} {u : Value} (I : Inv X pins σ H s) (h : CE X.stack X.prog X.w H s Q u s') : EP X pins σ Q u s' := by
  obtain ⟨v, H', os, bare, un, hok, r, q⟩ := h
  obtain ⟨hh, g, d, t, os'⟩ := s'
  obtain rfl : os' = s.os := os
  exact ⟨v, H', I.call (h' := hh) (g' := g) (d' := d) (t' := t) (ch := []) un hok bare (fun b z => absurd z (by simp)), r, q⟩
end

/-! ### calls -/
/-- how the parameters are bound: us the positional arguments, kw the keywords' values by name, ds the defaults that fill up -/
def Binds (K : PySem.W.Frag) (fd : FuncData) (ps : List Str) (ds : List Value) : Prop :=
  ∀ (s : Shared) (us : List Value), K.In s.heap → (us ++ ds).length = ps.length → BindsTo s fd ⟨us, []⟩ (ps.zip (us ++ ds))
/-- every parameter is given -/
theorem Binds.all {K : PySem.W.Frag} {fd : FuncData} {ps : List Str} (h : ∀ us : List Value, us.length = ps.length → bindArgs fd ⟨us, []⟩ = pure (ps.zip us)) : Binds K fd ps [] := fun s us _ hl => by
  rw [List.append_nil] at hl ⊢
  exact .of_eq (h us hl)

section
variable {X : Cx} {CX : CXT} {k : Nat} {f C : Addr} {fd : FuncData} {ps : List Str} {sp : Sp} {dvs : List V} {ds : List Value} {E : XK} {x m : Str} {p pos apos : Pos} {e o : Expr} {es : List Expr} {ta : TE} {t : TA}

end

/-! ### keywords -/
section
variable {X : Cx} {CX : CXT} {k : Nat} {f C : Addr} {fd : FuncData} {ps ks : List Str} {sp : Sp} {E : XK} {x m : Str} {p pos apos kpos : Pos} {e o : Expr} {es : List Expr} {kws : List Keyword} {te ta : TE} {t tk : TA} {nm : Option Str}
variable {g : List Value → List Value → List Value} {gV : List V → List V → List V}
end

/-! ### a def's body keeps its promise -/
/-- names: the parameters first -/
structure FnScope (N P : List Str) (sc : Scope) : Prop where
  kind : sc.kind = .function
  co : sc.isCoroutine = false
  gen : sc.isGenerator = false
  nd : N.Nodup
  pre : N.take P.length = P
  par : ∀ x ∈ P, sc.names.lookup x = some .local ∨ sc.names.lookup x = some .cell
  nofree : ∀ y ∈ sc.names, y.2 ≠ .free

theorem bindL_out {kindOf : Str → Option NameKind} {x : Str} : ∀ {binds : List (Str × Value)} {m : Str → Option Value}, (∀ v, (x, v) ∉ binds) → bindL kindOf binds m x = m x
  | [], _, _ => rfl
  | (n, v) :: r, m, h => by
    unfold bindL
    rw [bindL_out fun w hw => h w (List.mem_cons_of_mem _ hw)]
    split
    · have : x ≠ n := by rintro rfl; exact h v List.mem_cons_self
      simp [this]
    · rfl
theorem bindC_out {kindOf : Str → Option NameKind} {x : Str} : ∀ {binds : List (Str × Value)} {m : Str → Option Value}, (∀ v, (x, v) ∉ binds) → bindC kindOf binds m x = m x
  | [], _, _ => rfl
  | (n, v) :: r, m, h => by
    unfold bindC
    rw [bindC_out fun w hw => h w (List.mem_cons_of_mem _ hw)]
    split
    · rfl
    · have : x ≠ n := by rintro rfl; exact h v List.mem_cons_self
      simp [this]
theorem bindL_get {kindOf : Str → Option NameKind} {x : Str} {v : Value} : ∀ {P : List Str} {vs : List Value} {i : Nat} {m : Str → Option Value}, P.Nodup → P[i]? = some x → vs[i]? = some v → kindOf x = some .local →
    bindL kindOf (P.zip vs) m x = some v
  | [], _, _, _, _, h, _, _ => by simp at h
  | _ :: _, [], _, _, _, _, h, _ => by simp at h
  | p :: P, w :: vs, 0, m, nd, h1, h2, hk => by
    simp at h1 h2; subst h1; subst h2
    show bindL kindOf ((p, w) :: P.zip vs) m p = _
    unfold bindL
    rw [bindL_out fun v hv => (List.nodup_cons.mp nd).1 (List.of_mem_zip hv).1, if_pos hk]
    simp
  | p :: P, w :: vs, i + 1, m, nd, h1, h2, hk => by
    show bindL kindOf ((p, w) :: P.zip vs) m x = _
    unfold bindL
    exact bindL_get (i := i) (List.nodup_cons.mp nd).2 (by simpa using h1) (by simpa using h2) hk
theorem bindC_get {kindOf : Str → Option NameKind} {x : Str} {v : Value} : ∀ {P : List Str} {vs : List Value} {i : Nat} {m : Str → Option Value}, P.Nodup → P[i]? = some x → vs[i]? = some v → kindOf x ≠ some .local →
    bindC kindOf (P.zip vs) m x = some v
  | [], _, _, _, _, h, _, _ => by simp at h
  | _ :: _, [], _, _, _, _, h, _ => by simp at h
  | p :: P, w :: vs, 0, m, nd, h1, h2, hk => by
    simp at h1 h2; subst h1; subst h2
    show bindC kindOf ((p, w) :: P.zip vs) m p = _
    unfold bindC
    rw [bindC_out fun v hv => (List.nodup_cons.mp nd).1 (List.of_mem_zip hv).1, if_neg hk]
    simp
  | p :: P, w :: vs, i + 1, m, nd, h1, h2, hk => by
    show bindC kindOf ((p, w) :: P.zip vs) m x = _
    unfold bindC
    exact bindC_get (i := i) (List.nodup_cons.mp nd).2 (by simpa using h1) (by simpa using h2) hk

/-- the names' values at the entry -/
def start (N : List Str) (vs : List V) : St := vs.map some ++ List.replicate (N.length - vs.length) none

/-- the context of a def's body, at its entry; an exception leaves the frame, then lies as CX says -/
def cxOf (CX : CXT) (P : Program) (w : World) (K : PySem.W.Frag) (mg : Str → Option Value) (base : Heap) (N : List Str) (qual : Str) (scope : Scope) (f : Addr) (cd : Value) (A : Around) (outer : List Env) (s : Shared) (H : Hp) (E : XK) : Cx where
  prog := P
  w := w
  K := K
  mg := mg
  base := base
  A := A.deeper (envOfC qual scope s.heap.objs.size f cd)
  N := N
  s_0 := s
  H_0 := H
  env := envOfC qual scope s.heap.objs.size f cd
  outer := outer
  stack := envOfC qual scope s.heap.objs.size f cd :: outer
  ex := []
  calm := true
  fn := fun _ => true
  pn := []
  xe := fun e s' => wpAny (model P w) (A.deeper (envOfC qual scope s.heap.objs.size f cd)) (leaving (envOfC qual scope s.heap.objs.size f cd) e) (fun _ s'' => CX outer H s E e s'') (fun e' s'' => CX outer H s E e' s'') s'

theorem cell_has {sc : Scope} {n : Nat} {x : Str} (h : sc.names.lookup x = some .cell) : ∃ c, (cellsFrom n sc.names []).lookup x = some c := by
  have q := PySem.W.cellsFrom_some sc.names n [] (.inl h)
  exact Option.isSome_iff_exists.mp q

theorem inv_start {CX : CXT} {P : Program} {w : World} {K : PySem.W.Frag} {mg : Str → Option Value} {base : Heap} {N ps : List Str} {qual : Str} {scope : Scope} {f : Addr} {cd : Value} {A : Around} {outer : List Env} {s s1 : Shared} {H : Hp} {E : XK} {us : List Value} {vs : List V}
    (S : FnScope N ps scope) (hd : A.handled = none) (e0 : Env0 P w K mg base A outer s H) (hl : vs.length = ps.length) (r : Vals vs us)
    (x : InCallC s s.heap.objs.size (bindL (envOfC qual scope s.heap.objs.size f cd).kindOf (ps.zip us) fun _ => none) (cellsFrom (s.heap.objs.size + 1) scope.names []) (bindC (envOfC qual scope s.heap.objs.size f cd).kindOf (ps.zip us) fun _ => none) s1) :
    Inv (cxOf CX P w K mg base N qual scope f cd A outer s H E) [] (start N vs) H s1 := by
  have hpl : ps.length ≤ N.length := by have := congrArg List.length S.pre; rw [List.length_take] at this; omega
  obtain ⟨h1, tk, rfl, hk⟩ := x.done
  have noA : ∀ b : Addr, b ∉ (cxOf CX P w K mg base N qual scope f cd A outer s H E).ex := fun b z => absurd (show b ∈ ([] : List Addr) from z) (by simp)
  refine ⟨⟨e0.mod, S.kind, rfl, rfl, Nat.le_refl _, fun y z c h1 h2 => ?_, fun y hy => ?_, fun y c _ h => ?_, fun _ => hd, Around.frames_deeper e0.frames, .inr ⟨rfl, rfl⟩, fun b z => absurd z (noA b), e0.bs, e0.bsz, fun b _ _ => noA b, fun b z => absurd z (noA b), e0.funs, e0.frf⟩,
    rfl, e0.bare, Un.kept hk, ⟨_, x.toInCall.ns, fun i y v h1 h2 h3 => ?_⟩, fun y c h => ⟨_, x.cell y c h⟩, e0.hok.fresh (Nat.le_refl _), fun y c h => ?_, fun p hp => absurd (show p ∈ ([] : List (Addr × Obj)) from hp) (by simp), e0.hok.kept hk, ?_⟩
  · exact name_of_addr x.apart (PySem.mem_of_lookup h1) (PySem.mem_of_lookup h2)
  · have hy : scope.names.lookup y = some .cell ∨ scope.names.lookup y = some .free := hy
    rcases hy with hy | hy
    · exact cell_has hy
    · exact absurd rfl (S.nofree _ (PySem.mem_of_lookup hy))
  · exact Nat.le_of_lt (x.above y c (PySem.mem_of_lookup h))
  · have hi : i < vs.length := by
      unfold start at h2
      by_cases hi : i < vs.length
      · exact hi
      · rw [List.getElem?_append_right (by simpa using hi)] at h2
        rw [List.getElem?_replicate] at h2
        split at h2 <;> cases h2
    have ha : vs[i]? = some v := by
      unfold start at h2
      rw [List.getElem?_append_left (by simpa using hi), List.getElem?_map] at h2
      cases e : vs[i]? with
      | none => rw [e] at h2; cases h2
      | some a => rw [e] at h2; cases h2; rfl
    obtain ⟨u, hu, rv⟩ := r.get ha
    have hp : ps[i]? = some y := by
      rw [← S.pre, List.getElem?_take_of_lt (by omega)]; exact h1
    have ndP : ps.Nodup := by rw [← S.pre]; exact S.nd.sublist (List.take_sublist _ _)
    refine ⟨u, rv, ?_⟩
    rcases S.par y (List.mem_of_getElem? hp) with k | k
    · exact .inl ⟨k, bindL_get ndP hp hu k⟩
    · obtain ⟨c, e⟩ := cell_has (n := s.heap.objs.size + 1) k
      refine .inr ⟨.inl k, c, e, ?_⟩
      have q := x.cell y c e
      rw [bindC_get ndP hp hu (by show scope.names.lookup y ≠ _; rw [k]; decide)] at q
      exact q
  · exact e0.hok.fresh (Nat.le_of_lt (x.above y c (PySem.mem_of_lookup h)))
  · unfold start
    show _ = N.length
    rw [List.length_append, List.length_map, List.length_replicate]
    omega

/-- THE RULE: a def (or a method) of the text, by its body. The body's reading t is chosen for each entry; it is run at the parameters' values -/
theorem fn_of {CX : CXT} {P : Program} {w : World} {K : PySem.W.Frag} {mg : Str → Option Value} {base : Heap} {k : Nat} {f : Addr} {name qual : Str} {params : Arguments} {body : List Stmt} {scope : Scope} {dV kV doc pm cdv ct oc : Value} {an od : Option Addr}
    {osl : Array (Option Value)} {N ps : List Str} {sp : Sp} (lk : K.lookup f = some ⟨oc, od, .func (PySem.W.fnOf name qual params body scope dV kV doc pm an cdv ct), osl⟩) (hcd : PySem.W.codeIn K cdv qual = true) (S : FnScope N ps scope)
    (len : ∀ vs H Q E, sp vs H Q E → vs.length = ps.length)
    (hbody : ∀ (A : Around) (outer : List Env) (s : Shared) (H : Hp) (vs : List V) (Q : VK) (E : XK), Room k (A.deeper (envOfC qual scope s.heap.objs.size f cdv)) → sp vs H Q E →
      ∃ t, PSs (cxOf CX P w K mg base N qual scope f cdv A outer s H E) body t ∧ t { nx := fun _ H' => Q .non H', rt := Q } (start N vs) H) :
    FnOk P w K mg base CX (k + 1) f (PySem.W.fnOf name qual params body scope dV kV doc pm an cdv ct) ps sp := by
  refine ⟨len, fun A outer s H args us vs Q E hr e0 hb r hsp => ?_⟩
  have hl := len _ _ _ _ hsp
  have KX : K.In s.heap := e0.mod.kin.keeps fun b o e => (e0.bs b o e).1
  have lim : s.heap.NoLimit := e0.mod.nolimit.keeps fun b o e => (e0.bs b o e).1
  have hkind : ∀ y ∈ ps.zip us, scope.names.lookup y.1 = some .local ∨ (scope.names.lookup y.1 = some .cell ∧ ((cellsFrom (s.heap.objs.size + 1) scope.names []).lookup y.1).isSome = true) := fun ⟨n, v⟩ hy => by
    rcases S.par n (List.of_mem_zip hy).1 with q | q
    · exact .inl q
    · exact .inr ⟨q, PySem.W.cellsFrom_some _ _ _ (.inl q)⟩
  refine codeAny_call_function hr.depth (KX _ _ lk) rfl S.co S.gen rfl (PySem.W.codeRec_of KX hcd) (hb _ _ _ _ ?_)
  refine wpAny_newFunctionEnv_cells S.kind hkind fun env he s1 x => ?_
  subst he
  refine ⟨lim.keeps x.toInCall.keep, codeAny_func ?_⟩
  obtain ⟨t, ht, hq⟩ := hbody A outer s H vs Q E (hr.deeper _) hsp
  have I : Inv (cxOf CX P w K mg base N qual scope f cdv A outer s H E) [] (start N vs) H s1 := inv_start S hr.hd e0 hl r x
  refine wpAny_mono (ht [] s1 (start N vs) H _ I hq) (fun fl s' hs => ?_) fun e s' hs => hs
  have fin : ∀ {σ' : St} {H' : Hp} {v : V} {u : Value}, Inv (cxOf CX P w K mg base N qual scope f cdv A outer s H E) [] σ' H' s' → RelV v u → Q v H' → CE outer P w H s Q u s' :=
    fun {σ' H' v u} J rv q => ⟨v, H', J.os, J.bare, J.base, J.hok, rv, q⟩
  cases fl with
  | ret u =>
    obtain ⟨v, σ', H', J, rv, q⟩ := hs
    exact fin J rv q
  | next =>
    obtain ⟨σ', H', J, q⟩ := hs
    exact fin (v := V.non) (u := Value.none) J rfl q
  | brk =>
    obtain ⟨_, _, _, q⟩ := hs
    exact False.elim q
  | cont =>
    obtain ⟨_, _, _, q⟩ := hs
    exact False.elim q
end L2

namespace L2
open PySem PySem.Spec PyProof.Rows
section
variable {X : Cx} {x : Str} {p pos : Pos} {e : Expr} {es : List Expr} {t : TA} {id T : String} {r : List V → Hp → VK → Prop}

def tCB (r : List V → Hp → VK → Prop) (t : TA) : TE := fun σ H Q => t σ H fun vs H1 => r vs H1 Q
/-- f(e, ..), f a built-in function -/
theorem pe_callB (hc : CallR X (.builtin id) r) (hg : Gl X x) (hm : X.mg x = none) (hv : bootBuiltins x = some (.builtin id)) (ha : PA X (e :: es) t) (hn : x ≠ "__name__" := by decide) (hdb : (x == ("__debug__" : Str)) = false := by decide)
    (he : starEach (e :: es) X.env = (false, eval e X.env) :: starEach es X.env := by rfl) (hpl : (backTo pos (starEach es X.env)).any (·.1) = false := by rfl) : PE X (.Call (.Name x p) (e :: es) [] pos) (tCB r t) := by
  intro pins s σ H Q I h
  refine wpAny_Call_Name_kw (ld_blt I hg hm hv ?_ hn hdb)
  exact PyProof.Rows.callWith_builtin1 (thn (ha pos pins s σ H _ I h) fun us s1 ⟨vs, H1, I1, r1, q1⟩ => hc pins s1 σ H1 vs us Q I1 r1 q1) he hpl
/-- T(e, ..), T a built-in type -/
theorem pe_callTy (hc : CallR X (.type T) r) (hg : Gl X x) (hm : X.mg x = none) (hv : bootBuiltins x = some (.type T)) (ha : PA X (e :: es) t) (hn : x ≠ "__name__" := by decide) (hdb : (x == ("__debug__" : Str)) = false := by decide)
    (he : starEach (e :: es) X.env = (false, eval e X.env) :: starEach es X.env := by rfl) (hpl : (backTo pos (starEach es X.env)).any (·.1) = false := by rfl) : PE X (.Call (.Name x p) (e :: es) [] pos) (tCB r t) := by
  intro pins s σ H Q I h
  refine wpAny_Call_Name_kw (ld_blt I hg hm hv ?_ hn hdb)
  exact PyProof.Rows.callWith_type1 (thn (ha pos pins s σ H _ I h) fun us s1 ⟨vs, H1, I1, r1, q1⟩ => hc pins s1 σ H1 vs us Q I1 r1 q1) he hpl
end
end L2

namespace HT
open PySem PyProof.Rows

section
open PySem.SeqAt
open PySem.AutoSeq1 (wpAny_loadPart')
open PySem.MeetsSeq PySem.MeetsSeq2 PySem.MeetsSeq3

end

section
variable {prog : Program} {w : World} {A : Around} {E : Value → Shared → Prop} {s : Shared}

/-! ### t[a:b], not the whole -/
/-- a slice's bound as a place among n (d where it is left out) -/
def sIx (n d : Nat) : Option Int → Nat
  | none => d
  | some v => if v < 0 then (v + (n : Int)).toNat else min v.toNat n
theorem sIx_le (n d : Nat) (hd : d ≤ n) (o : Option Int) : sIx n d o ≤ n := by
  cases o with
  | none => exact hd
  | some v =>
    show (if v < 0 then (v + (n : Int)).toNat else min v.toNat n) ≤ n
    by_cases hv : v < 0
    · rw [if_pos hv]; omega
    · rw [if_neg hv]; exact Nat.min_le_right _ _
end
end HT

namespace L2
open PySem PySem.Spec PyProof.Rows

/-! ### the parts of a slice -/
abbrev TO := St → Hp → (Option Int → Hp → Prop) → Prop
/-- a slice's part (left out, or an int) -/
def PO (X : Cx) (e : Option Expr) (t : TO) : Prop :=
  ∀ (pins : List (Addr × Obj)) (s : Shared) (σ : St) (H : Hp) (Q : Option Int → Hp → Prop), Inv X pins σ H s → t σ H Q →
    wpAny (model X.prog X.w) X.A (evalPart e X.env) (fun u s' => ∃ o H', Inv X pins σ H' s' ∧ IsPart u o ∧ Q o H') X.xe s
def tNoPart : TO := fun _ H Q => Q none H
def tPart (t : TE) : TO := fun σ H Q => t σ H fun x H1 => ∃ i, x = .int i ∧ Q (some i) H1

section
variable {X : Cx} {e : Expr} {te : TE} {lo hi : Option Expr} {tl th : TO} {pos p2 : Pos}

theorem po_none : PO X none tNoPart := by
  intro pins s σ H Q I h
  rw [evalPart_none]
  exact wpAny_pure ⟨none, H, I, .none, h⟩
theorem po_some (h : PE X e te) : PO X (some e) (tPart te) := by
  intro pins s σ H Q I hw
  rw [evalPart_some]
  refine thn (h pins s σ H _ I hw) fun u s1 ⟨x, H1, I1, r1, q1⟩ => ?_
  obtain ⟨i, rfl, q⟩ := q1
  obtain ⟨t, rfl⟩ := r1
  exact ⟨some i, H1, I1, .int i t, q⟩

/-- what a slice of a value is, by values: the slice object stands at sl -/
def SlR (X : Cx) (r : V → Option Int → Option Int → Hp → VK → Prop) : Prop :=
  ∀ (pins : List (Addr × Obj)) (s : Shared) (σ : St) (H : Hp) (x : V) (v vl vu : Value) (lo hi : Option Int) (sl : Addr) (Q : VK), Inv X pins σ H s → RelV x v → s.heap.IsSliceOf sl vl vu .none → IsPart vl lo → IsPart vu hi → r x lo hi H Q →
    ∃ T id, typeLookup (.type T) "__getitem__" = pure (some (.builtin id)) ∧ s.TypeIs v T ∧ wpAny (model X.prog X.w) X.A (getItem v (.ref sl)) (EP X pins σ Q) X.xe s
def tSl (r : V → Option Int → Option Int → Hp → VK → Prop) (te : TE) (tl th : TO) : TE := fun σ H Q => te σ H fun x H1 => tl σ H1 fun l H2 => th σ H2 fun u H3 => r x l u H3 Q
/-- a[lo:hi], any a -/
theorem pe_slice {r : V → Option Int → Option Int → Hp → VK → Prop} (hr : SlR X r) (he : PE X e te) (hl : PO X lo tl) (hu : PO X hi th) : PE X (.Subscript e (.Slice lo hi none p2) pos) (tSl r te tl th) := by
  intro pins s σ H Q I h
  refine Subscript_ (thn (he pins s σ H _ I h) fun v s1 ⟨x, H1, I1, r1, q1⟩ => ?_)
  refine wpAny_Slice (thn (hl pins s1 σ H1 _ I1 q1) fun vl s2 ⟨l, H2, I2, pl, q2⟩ => thn (hu pins s2 σ H2 _ I2 q2) fun vu s3 ⟨u, H3, I3, pu, q3⟩ => ?_)
  rw [evalPart_none]
  refine wpAny_pure ?_
  have I4 : Inv X pins σ H3 { s3 with heap := s3.heap.push { cls := .type "slice", data := .fields #[vl, vu, .none] } } := I3.kept (t' := s3.toks) fun b ob q => Heap.get?_push_of_some _ q
  obtain ⟨T, id, hT, ht, hg⟩ := hr pins { s3 with heap := s3.heap.push { cls := .type "slice", data := .fields #[vl, vu, .none] } } σ H3 x v vl vu l u s3.heap.objs.size Q I4 r1 (Heap.IsSliceOf.new ..) pl pu q3
  show wpAny (model X.prog X.w) X.A (subscriptTail e (.Slice lo hi none p2) v (.ref s3.heap.objs.size)) (EP X pins σ Q) X.xe { s3 with heap := s3.heap.push { cls := .type "slice", data := .fields #[vl, vu, .none] } }
  exact tail_any (ops := [.ref s3.heap.objs.size, v]) ht hT hg (by with_unfolding_all rfl)

/-! ### t < u, t + u -/
end
end L2

namespace L2
open PySem PySem.Spec PyProof.Rows

/-! ### places -/
/-- the place that an index of any sign means -/
def ixN (n : Nat) (i : Int) : Option Nat := if 0 ≤ i then (if i < n then some i.toNat else none) else if -(n : Int) ≤ i then some (i + n).toNat else none
def atI {α : Type} (xs : List α) (i : Int) : Option α := (ixN xs.length i).bind fun j => xs[j]?
theorem ixN_seq {n : Nat} {i : Int} {j : Nat} (h : ixN n i = some j) : seqIndex? i n = some j ∧ j < n ∧ -(n : Int) ≤ i ∧ i < n := by
  unfold ixN at h
  by_cases h0 : 0 ≤ i
  · rw [if_pos h0] at h
    by_cases h1 : i < n
    · rw [if_pos h1] at h
      have e : i.toNat = j := Option.some.inj h
      exact ⟨by rw [seqIndex_of h0 h1, e], by omega, by omega, h1⟩
    · rw [if_neg h1] at h; cases h
  · rw [if_neg h0] at h
    by_cases h1 : -(n : Int) ≤ i
    · rw [if_pos h1] at h
      have e : (i + n).toNat = j := Option.some.inj h
      exact ⟨by rw [seqIndex_neg (by omega) h1, e], by omega, h1, by omega⟩
    · rw [if_neg h1] at h; cases h
theorem atI_get {α : Type} {xs : List α} {i : Int} {v : α} (h : atI xs i = some v) : ∃ j, seqIndex? i xs.length = some j ∧ xs[j]? = some v ∧ j < xs.length ∧ -(xs.length : Int) ≤ i ∧ i < xs.length := by
  unfold atI at h
  cases e : ixN xs.length i with
  | none => rw [e] at h; cases h
  | some j =>
    rw [e] at h
    obtain ⟨h1, h2, h3, h4⟩ := ixN_seq e
    exact ⟨j, h1, h, h2, h3, h4⟩
theorem atI_nat {α : Type} {xs : List α} {j : Nat} {v : α} (h : xs[j]? = some v) : atI xs (j : Int) = some v := by
  have hj : j < xs.length := (List.getElem?_eq_some_iff.mp h).1
  have e : ixN xs.length (j : Int) = some j := by
    unfold ixN
    rw [if_pos (by omega), if_pos (by omega)]; simp
  unfold atI; rw [e]; exact h
/-! ### what may be subscripted -/
/-- what stands as an index of a plain subscript -/
def PlainIx (b : Expr) : Prop := ∀ o i, subscripted b false o i = operate [o, i] (getItem o i)
/-- a subscript by values -/
def IxR (X : Cx) (r : R2) : Prop :=
  ∀ (value slice : Expr) (pins : List (Addr × Obj)) (s : Shared) (σ : St) (H : Hp) (x y : V) (v u : Value) (Q : VK), Inv X pins σ H s → RelV x v → RelV y u → r x y H Q →
    subscripted slice false v u = operate [v, u] (getItem v u) → wpAny (model X.prog X.w) X.A (subscriptTail value slice v u) (EP X pins σ Q) X.xe s
/-- a call of a builtin's method by values: the receiver, the arguments -/
def MtR (X : Cx) (id : String) (r : V → List V → Hp → VK → Prop) : Prop :=
  ∀ (pins : List (Addr × Obj)) (s : Shared) (σ : St) (H : Hp) (x : V) (xs : List V) (v : Value) (us : List Value) (Q : VK), Inv X pins σ H s → RelV x v → Vals xs us → r x xs H Q →
    wpAny (model X.prog X.w) X.A (call (.builtin id) (v :: us)) (EP X pins σ Q) X.xe s
section
variable {X : Cx} {a b : Expr} {ta tb : TE} {pos : Pos}
/-- a[b] -/
theorem pe_ix {r : R2} (hr : IxR X r) (ha : PE X a ta) (hb : PE X b tb) (hs : PlainIx b) : PE X (.Subscript a b pos) (tOp r ta tb) := by
  intro pins s σ H Q I h
  exact Subscript_ (binT ha hb I h fun v u s2 x y H2 I2 rx ry q => hr a b pins s2 σ H2 x y v u Q I2 rx ry q (hs _ _))

def rIxL (K : PySem.W.Frag) : R2 := fun x y H Q => ∃ p xs i v, x = .ref p ∧ y = .int i ∧ SqL K H p xs ∧ atI xs i = some v ∧ Q v H
theorem ix_list : IxR X (rIxL X.K) := by
  intro value slice pins s σ H x y v u Q I rx ry h hs
  obtain ⟨p, xs, i, z, rfl, rfl, hq, he, q⟩ := h
  cases rx
  obtain ⟨t, rfl⟩ := ry
  obtain ⟨its, r, pl, hz⟩ := I.list hq
  obtain ⟨j, h1, h2, h3, h4, h5⟩ := atI_get he
  obtain ⟨w, ew, rw'⟩ := r.get h2
  have hl := r.length
  have hn := line63
  have fin : EP X pins σ Q w s := ⟨z, H, I, rw', q⟩
  by_cases h0 : 0 ≤ i
  · have hj : i.toNat = j := by
      rw [seqIndex_of h0 h5] at h1
      exact Option.some.inj h1
    exact item_listR pl.isList h0 (by omega) (by rw [hj]; simpa using ew) fin hs
  · have hj : (i + (its.toArray.size : Int)).toNat = j := by
      rw [seqIndex_neg (by omega) h4] at h1
      rw [List.size_toArray, ← hl]
      exact Option.some.inj h1
    exact subscriptTail_builtinR (x := w) pl.isList.typeIs slot_list_getitem.lookup
      (wpAny_getItem_list_neg (Q := fun r s' => r = w ∧ EP X pins σ Q r s') pl.isList (by omega) (by rw [List.size_toArray] <;> omega) (by omega) (by rw [hj]; simpa using ew) ⟨rfl, fin⟩) hs
/-! ### xs[i] = v, any sign -/
/-- the list's object behind a store -/
theorem mapSeq_set (its : List Value) (n j : Nat) (u : Value) : Obj.mapSeq (·.setIfInBounds j u) { cls := .type "list", data := .seq its.toArray n } = { cls := .type "list", data := .seq (its.set j u).toArray n } := by
  simp [Obj.mapSeq]
theorem Inv.lst {pins : List (Addr × Obj)} {σ : St} {H : Hp} {s : Shared} {p : Addr} {xs : List V} (I : Inv X pins σ H s) (h : H p = some (.lst xs)) :
    ∃ (its : List Value) (n : Nat), Vals xs its ∧ s.heap.get? p = some { cls := .type "list", data := .seq its.toArray n } ∧ xs.length ≤ sizeLine := by
  obtain ⟨z, its, n, r, e⟩ := I.hok p _ h
  exact ⟨its, n, r, e, z⟩
/-- the list at p is written by an update of its object -/
theorem Inv.lstUpd {pins : List (Addr × Obj)} {σ : St} {H : Hp} {s : Shared} {p : Addr} {xs ys : List V} {its its' : List Value} {n n' : Nat} {f : Obj → Obj} (I : Inv X pins σ H s) (h : H p = some (.lst xs))
    (ho : s.heap.get? p = some { cls := .type "list", data := .seq its.toArray n }) (hf : f { cls := .type "list", data := .seq its.toArray n } = { cls := .type "list", data := .seq its'.toArray n' }) (r : Vals ys its') (hz : ys.length ≤ sizeLine) (t : Nat) :
    Inv X pins σ (upd H p (.lst ys)) { s with heap := s.heap.update p f, toks := t } := by
  have e : (s.heap.update p f).get? p = some { cls := .type "list", data := .seq its'.toArray n' } := by
    rw [Heap.get?_update_self f ho (by rw [hf] <;> rfl), hf]
  refine I.write (x := p) (e := p) (by rw [h]; trivial) (.inl rfl) (fun b u hb q => (Heap.get?_update_other _ _ (Ne.symm hb)).trans q) ⟨_, e⟩ ?_
  exact ⟨hz, its', n', r, e⟩
def rSetL : V → V → V → Hp → (Hp → Prop) → Prop := fun o i v H Q => ∃ p xs k j, o = .ref p ∧ i = .int k ∧ H p = some (.lst xs) ∧ ixN xs.length k = some j ∧ Q (upd H p (.lst (xs.set j v)))
theorem set_list : PSet X rSetL := by
  intro pins s σ H o i v ov iv u Q I ro ri rv h
  obtain ⟨p, xs, k, j, rfl, rfl, hp, hj, q⟩ := h
  cases ro
  obtain ⟨t, rfl⟩ := ri
  obtain ⟨its, n, r, ho, hz⟩ := I.lst hp
  obtain ⟨h1, h2, h3, h4⟩ := ixN_seq hj
  have hl := r.length
  have hn := line63
  have I' : Inv X pins σ (upd H p (.lst (xs.set j v))) { s with heap := s.heap.update p (Obj.mapSeq (·.setIfInBounds j u)) } :=
    I.lstUpd hp ho (mapSeq_set its n j u) (r.set rv j) (by rw [List.length_set]; exact hz) s.toks
  by_cases h0 : 0 ≤ k
  · have hk : k.toNat = j := by
      rw [seqIndex_of h0 h4] at h1
      exact Option.some.inj h1
    exact PySem.W.ki_setAt ho h0 (by omega) (by rw [List.size_toArray, ← hl]; exact h4) (by rw [hk]; exact ⟨_, I', q⟩)
  · have hk : (k + (its.toArray.size : Int)).toNat = j := by
      rw [seqIndex_neg (by omega) h3] at h1
      rw [List.size_toArray, ← hl]
      exact Option.some.inj h1
    exact PySem.W.ki_setBack ho (by omega) (by rw [List.size_toArray, ← hl]; exact h3) (by omega) (by rw [hk]; exact ⟨_, I', q⟩)

/-! ### slices -/
theorem slice_bounds (lo hi : Option Int) (n : Nat) : (sliceBounds lo hi none n).1 = ((HT.sIx n 0 lo : Nat) : Int) ∧ (sliceBounds lo hi none n).2.1 = ((HT.sIx n n hi : Nat) : Int) ∧ (sliceBounds lo hi none n).2.2 = 1 := by
  refine ⟨?_, ?_, rfl⟩
  · cases lo with
    | none => simp [sliceBounds, HT.sIx]
    | some i =>
      simp only [sliceBounds, HT.sIx, Option.getD_none, show (1 : Int) > 0 by decide, if_true]
      by_cases h : i < 0
      · simp only [h, if_true] <;> omega
      · simp only [h, if_false] <;> omega
  · cases hi with
    | none => simp [sliceBounds, HT.sIx]
    | some i =>
      simp only [sliceBounds, HT.sIx, Option.getD_none, show (1 : Int) > 0 by decide, if_true]
      by_cases h : i < 0
      · simp only [h, if_true] <;> omega
      · simp only [h, if_false] <;> omega
/-! ### in, not in: flat items -/
def flatV : V → Bool
  | .non => true
  | .bl _ => true
  | .int _ => true
  | .str _ => true
  | _ => false
/-- == of flat values -/
def eqV : V → V → Bool
  | .non, .non => true
  | .bl a, .bl b => a == b
  | .bl a, .int b => (if a then 1 else 0) == b
  | .int a, .bl b => a == (if b then 1 else 0)
  | .int a, .int b => a == b
  | .str a, .str b => a == b
  | _, _ => false
theorem eqAt_V {A : Around} {s : Shared} {y x : V} {u v : Value} (ry : RelV y u) (rx : RelV x v) (fy : flatV y = true) (fx : flatV x = true) : SeqAt.EqAt A s u v (eqV y x) := by
  cases y with
  | non =>
    cases ry
    cases x with
    | non => cases rx; exact SeqAt.EqAt.same _
    | bl b => cases rx; exact SeqAt.EqAt.none_bool b
    | int b => obtain ⟨t, rfl⟩ := rx; exact SeqAt.EqAt.none_int b t
    | str b => obtain ⟨t, rfl⟩ := rx; exact SeqAt.EqAt.none_str b t
    | _ => exact absurd (show false = true from fx) Bool.false_ne_true
  | bl a =>
    cases ry
    cases x with
    | non => cases rx; exact SeqAt.EqAt.bool_none a
    | bl b => cases rx; exact SeqAt.EqAt.bool_bool a b
    | int b => obtain ⟨t, rfl⟩ := rx; exact SeqAt.EqAt.bool_int a b t
    | str b => obtain ⟨t, rfl⟩ := rx; exact SeqAt.EqAt.bool_str a b t
    | _ => exact absurd (show false = true from fx) Bool.false_ne_true
  | int a =>
    obtain ⟨t', rfl⟩ := ry
    cases x with
    | non => cases rx; exact SeqAt.EqAt.int_none a t'
    | bl b => cases rx; exact SeqAt.EqAt.int_bool a t' b
    | int b => obtain ⟨t, rfl⟩ := rx; exact SeqAt.EqAt.int_int a t' b t
    | str b => obtain ⟨t, rfl⟩ := rx; exact SeqAt.EqAt.int_str a t' b t
    | _ => exact absurd (show false = true from fx) Bool.false_ne_true
  | str a =>
    obtain ⟨t', rfl⟩ := ry
    cases x with
    | non => cases rx; exact SeqAt.EqAt.str_none a t'
    | bl b => cases rx; exact SeqAt.EqAt.str_bool a t' b
    | int b => obtain ⟨t, rfl⟩ := rx; exact SeqAt.EqAt.str_int a t' b t
    | str b => obtain ⟨t, rfl⟩ := rx; exact SeqAt.EqAt.str_str a t' b t
    | _ => exact absurd (show false = true from fx) Bool.false_ne_true
  | _ => exact absurd (show false = true from fy) Bool.false_ne_true
/-- the items' answers, read off the values (a value's own answer does not lean on its token) -/
def eqU (x : V) (u : Value) : Bool := match u with
  | .none => eqV .non x
  | .bool b => eqV (.bl b) x
  | .int i _ => eqV (.int i) x
  | .str z _ => eqV (.str z) x
  | _ => false
theorem eqU_of {x y : V} {u : Value} (r : RelV y u) (f : flatV y = true) : eqU x u = eqV y x := by
  cases y with
  | non => cases r; rfl
  | bl b => cases r; rfl
  | int i => obtain ⟨t, rfl⟩ := r; rfl
  | str z => obtain ⟨t, rfl⟩ := r; rfl
  | _ => exact absurd (show false = true from f) Bool.false_ne_true
theorem any_eqU {x : V} : ∀ {xs : List V} {us : List Value}, Vals xs us → xs.all flatV = true → us.any (eqU x) = xs.any fun y => eqV y x
  | _, _, .nil, _ => rfl
  | y :: xs, u :: us, .cons r t, f => by
    rw [List.all_cons, Bool.and_eq_true] at f
    rw [List.any_cons, List.any_cons, eqU_of r f.1, any_eqU t f.2]
theorem mem_eqAt {A : Around} {s : Shared} {x : V} {v : Value} (rx : RelV x v) (fx : flatV x = true) : ∀ {xs : List V} {us : List Value}, Vals xs us → xs.all flatV = true → ∀ u ∈ us, SeqAt.EqAt A s u v (eqU x u)
  | _, _, .nil, _ => fun u hu => by cases hu
  | y :: xs, u :: us, .cons r t, f => fun u' hu => by
    rw [List.all_cons, Bool.and_eq_true] at f
    rcases List.mem_cons.mp hu with rfl | hu
    · rw [eqU_of r f.1]; exact eqAt_V r rx f.1 fx
    · exact mem_eqAt rx fx t f.2 u' hu
def inV (x : V) (xs : List V) : Bool := xs.any fun y => eqV y x
/-- x in a list or tuple of flat items -/
def rIn (K : PySem.W.Frag) (neg : Bool) : R2 := fun x y H Q => ∃ p xs, y = .ref p ∧ (SqL K H p xs ∨ SqT K H p xs) ∧ flatV x = true ∧ xs.all flatV = true ∧ Q (.bl (if neg then !inV x xs else inV x xs)) H
theorem op_in_seq : OpR X (compareOp .In) (rIn X.K false) := by
  intro pins s σ H x y v u Q I rx ry h
  obtain ⟨p, xs, rfl, hq, fx, fs, q⟩ := h
  cases ry
  rcases hq with hq | hq
  · obtain ⟨its, r, pl, hz⟩ := I.list hq
    refine SeqAt.in_listAt (eqU x) pl.isList (fun w hw => mem_eqAt rx fx r fs w (by simpa using hw)) ⟨.bl _, H, I, rfl, ?_⟩
    rw [show its.toArray.any (eqU x) = its.any (eqU x) by simp, any_eqU r fs]
    exact q
  · obtain ⟨its, r, pl, hz⟩ := I.tuple hq
    refine SeqAt.in_tupleAt (eqU x) pl (fun w hw => mem_eqAt rx fx r fs w (by simpa using hw)) ⟨.bl _, H, I, rfl, ?_⟩
    rw [show its.toArray.any (eqU x) = its.any (eqU x) by simp, any_eqU r fs]
    exact q
/-! ### len, list(x), tuple(x) of any list or tuple that is read -/
theorem call_len_seq : CallR X (.builtin "len") (fun xs H Q => ∃ p ys, xs = [.ref p] ∧ (SqL X.K H p ys ∨ SqT X.K H p ys) ∧ Q (.int ys.length) H) := by
  intro pins s σ H xs us Q I r h
  obtain ⟨p, ys, rfl, hq, q⟩ := h
  obtain ⟨u, rfl, rx⟩ := vals1 r
  cases rx
  have hn := line63
  rcases hq with hq | hq
  · obtain ⟨its, r', pl, hz⟩ := I.list hq
    have hlen := r'.length
    exact Calls.call_len_list pl.isList (by simp only [List.size_toArray] <;> omega) ⟨.int ys.length, H, I.tok _, ⟨s.toks + 1, by rw [List.size_toArray, hlen]⟩, q⟩
  · obtain ⟨its, r', pl, hz⟩ := I.tuple hq
    have hlen := r'.length
    exact len_tuple pl (by simp only [List.size_toArray] <;> omega) ⟨.int ys.length, H, I.tok _, ⟨s.toks + 1, by rw [List.size_toArray, hlen]⟩, q⟩
theorem call_len_str : CallR X (.builtin "len") (fun xs H Q => ∃ z, xs = [.str z] ∧ z.length ≤ sizeLine ∧ Q (.int z.length) H) := by
  intro pins s σ H xs us Q I r h
  obtain ⟨z, rfl, hz, q⟩ := h
  obtain ⟨u, rfl, t, rfl⟩ := vals1 r
  have hn := line63
  exact len_str (by omega) ⟨.int z.length, H, I.tok _, ⟨_, rfl⟩, q⟩
/-! ### the call of a builtin's method: o.m(..) -/
/-- the value is of that builtin type -/
def tyV (K : PySem.W.Frag) (T : String) (x : V) (H : Hp) : Prop := match x with
  | .str _ => T = "str"
  | .int _ => T = "int"
  | .ref p => (T = "list" ∧ ∃ xs, SqL K H p xs) ∨ (T = "tuple" ∧ ∃ o, K.lookup p = some o ∧ o.cls = .type "tuple" ∧ o.dict = none) ∨
      (T = "dict" ∧ ((∃ kvs, H p = some (.dK kvs)) ∨ ∃ kvs, H p = some (.dT kvs))) ∨ (T = "set" ∧ ∃ S n, H p = some (.set S n))
  | _ => False
theorem tyV_is {pins : List (Addr × Obj)} {σ : St} {H : Hp} {s : Shared} {T : String} {x : V} {v : Value} (I : Inv X pins σ H s) (r : RelV x v) (ty : tyV X.K T x H) :
    s.TypeIs v T ∧ ∀ a, v = .ref a → ∃ ob, s.heap.get? a = some ob ∧ ob.dict = none := by
  cases x with
  | str z =>
    obtain ⟨t, rfl⟩ := r
    cases (show T = "str" from ty)
    exact ⟨typeIs_str s z t, fun _ e => nomatch e⟩
  | int i =>
    obtain ⟨t, rfl⟩ := r
    cases (show T = "int" from ty)
    exact ⟨typeIs_int s i t, fun _ e => nomatch e⟩
  | ref p =>
    cases r
    rcases ty with ⟨rfl, xs, hq⟩ | ⟨rfl, o, hk, hc, hd⟩ | ⟨rfl, hk⟩ | ⟨rfl, S, n, hk⟩
    · obtain ⟨its, _, pl, _⟩ := I.list hq
      refine ⟨pl.isList.typeIs, fun a e => ?_⟩
      cases e
      obtain ⟨o, n, e, c, hd, _⟩ := pl
      exact ⟨o, e, hd⟩
    · refine ⟨⟨o, I.kIn p o hk, hc⟩, fun a e => ?_⟩
      cases e
      exact ⟨o, I.kIn _ o hk, hd⟩
    · have z : ∃ o, s.heap.get? p = some o ∧ o.ExactDict := by
        rcases hk with ⟨kvs, hk⟩ | ⟨kvs, hk⟩
        · obtain ⟨_, _, _, _, o, _, _, e, ex, _⟩ := I.hok p _ hk
          exact ⟨o, e, ex⟩
        · obtain ⟨_, _, _, _, o, _, _, e, ex, _⟩ := I.hok p _ hk
          exact ⟨o, e, ex⟩
      obtain ⟨o, e, ex⟩ := z
      refine ⟨⟨o, e, ex.1⟩, fun a e2 => ?_⟩
      cases e2
      exact ⟨o, e, ex.2.1⟩
    · obtain ⟨o, _, _, _, e, ex, _⟩ := I.hok p _ hk
      refine ⟨⟨o, e, ex.1⟩, fun a e2 => ?_⟩
      cases e2
      exact ⟨o, e, ex.2.1⟩
  | _ => exact False.elim ty
def tBM0 (K : PySem.W.Frag) (T : String) (r : V → List V → Hp → VK → Prop) (to : TE) : TE := fun σ H Q => to σ H fun x H1 => tyV K T x H1 ∧ r x [] H1 Q
def tBM (K : PySem.W.Frag) (T : String) (r : V → List V → Hp → VK → Prop) (to : TE) (t : TA) : TE := fun σ H Q => to σ H fun x H1 => tyV K T x H1 ∧ t σ H1 fun xs H2 => r x xs H2 Q
variable {o e : Expr} {es : List Expr} {to : TE} {t : TA} {name : Str} {apos cpos : Pos} {T id : String} {r : V → List V → Hp → VK → Prop}
theorem pe_bm0 (pa : PlainAttrs T) (slot : Slot T name id) (hty : typeOf (.builtin id) = pure (.type "method_descriptor")) (hm : MtR X id r) (ho : PE X o to)
    (hbase : attributeBase o name X.env (eval o X.env) = eval o X.env := by rfl) (hline : (apos.endLine == cpos.line) = true := by rfl) : PE X (.Call (.Attribute o name apos) [] [] cpos) (tBM0 X.K T r to) := by
  intro pins s σ H Q I h
  refine wpAny_Call_method0_late hbase hline (thn (ho pins s σ H _ I h) fun v s1 ⟨x, H1, I1, r1, ty, q1⟩ => ?_)
  obtain ⟨h1, h2⟩ := tyV_is I1 r1 ty
  exact ⟨T, id, pa, slot, hty, h1, h2, Calls.callWith_builtin rfl (PySem.evalArgs_none (hm pins s1 σ H1 x [] v [] Q I1 r1 .nil q1))⟩
theorem pe_bm (pa : PlainAttrs T) (slot : Slot T name id) (hty : typeOf (.builtin id) = pure (.type "method_descriptor")) (hm : MtR X id r) (ho : PE X o to) (ha : PA X (e :: es) t)
    (hbase : attributeBase o name X.env (eval o X.env) = eval o X.env := by rfl)
    (hfew : ((backTo cpos (starEach (e :: es) X.env)).all (fun x => !x.1) && (backToKw cpos (keywordEach [] X.env)).all (fun x => x.1.isSome)
      && decide ((e :: es).length + ([] : List Keyword).length + (if ([] : List Keyword).isEmpty then 0 else 1) < 30)) = true := by rfl)
    (hline : (apos.endLine == cpos.line) = true := by rfl) (hs : starEach (e :: es) X.env = (false, eval e X.env) :: starEach es X.env := by rfl) (hplain : (backTo cpos (starEach es X.env)).any (·.1) = false := by rfl) :
    PE X (.Call (.Attribute o name apos) (e :: es) [] cpos) (tBM X.K T r to t) := by
  intro pins s σ H Q I h
  refine wpAny_Call_method_late hbase hfew hline rfl (thn (ho pins s σ H _ I h) fun v s1 ⟨x, H1, I1, r1, ty, q1⟩ => ?_)
  obtain ⟨h1, h2⟩ := tyV_is I1 r1 ty
  refine ⟨T, id, pa, slot, hty, h1, h2, ?_⟩
  have hA := ha cpos pins s1 σ H1 _ I1 q1
  rw [hs] at hA ⊢
  refine Calls.callWith_builtin (by show (false || (backTo cpos (starEach es X.env)).any (·.1)) = false; rw [hplain] <;> rfl) (Calls.evalArgs_plain ?_)
  exact thn hA fun us s2 ⟨vs, H2, I2, r2, q2⟩ => hm pins s2 σ H2 x vs v us Q I2 r1 r2 q2
/- xs.append(e), list.index on a module's tuple .. are MtR facts of 06m -/
end
end L2

namespace L2
open PySem PySem.Spec PyProof.Rows

def MtM (X : Cx) (id : String) (r : V → List V → Hp → VK → Prop) : Prop :=
  ∀ (pins : List (Addr × Obj)) (s : Shared) (σ : St) (H : Hp) (x : V) (xs : List V) (v : Value) (us : List Value) (Q : VK), Inv X pins σ H s → RelV x v → Vals xs us → r x xs H Q →
    wpAny (model X.prog X.w) X.A (call (.builtin id) (v :: us)) (EP X pins σ Q) X.xe s

/-! ### lists of values -/
theorem Vals.one : ∀ {x : V} {us : List Value}, Vals [x] us → ∃ u, us = [u] ∧ RelV x u
  | _, _, .cons r .nil => ⟨_, rfl, r⟩
theorem Vals.rep {xs : List V} {us : List Value} (h : Vals xs us) : ∀ k : Nat, Vals (List.replicate k xs).flatten (List.replicate k us).flatten
  | 0 => .nil
  | k + 1 => by
    rw [List.replicate_succ, List.replicate_succ, List.flatten_cons, List.flatten_cons]
    exact Vals.append h (Vals.rep h k)
theorem foldl_rep (its : List Value) : ∀ (k : Nat) (acc : List Value),
    List.foldl (fun x1 x2 => x1 ++ x2) acc.toArray (List.replicate k its.toArray) = (acc ++ (List.replicate k its).flatten).toArray
  | 0, acc => by simp
  | k + 1, acc => by
    have e : acc.toArray ++ its.toArray = (acc ++ its).toArray := by simp
    have e2 : (acc ++ its) ++ (List.replicate k its).flatten = acc ++ (List.replicate (k + 1) its).flatten := by
      rw [List.replicate_succ, List.flatten_cons, List.append_assoc]
    rw [← e2, ← foldl_rep its k (acc ++ its), ← e, List.replicate_succ, List.foldl_cons]

section
variable {X : Cx} {pins : List (Addr × Obj)} {σ : St} {H : Hp} {s : Shared} {l b : Addr} {xs ys zs : List V}

/-! ### the two steps: a tracked list is rewritten, a new list is laid -/
theorem Inv.lset {its its' : List Value} {n : Nat} {f : Array Value → Array Value} {t' : Nat} (I : Inv X pins σ H s) (hH : H l = some (.lst xs))
    (e : s.heap.get? l = some { cls := .type "list", data := .seq its.toArray n }) (hf : f its.toArray = its'.toArray) (hv : Vals ys its') (hz : ys.length ≤ sizeLine) :
    Inv X pins σ (upd H l (.lst ys)) { s with heap := s.heap.update l (Obj.mapSeq f), toks := t' } := by
  have q := PySem.IsL.update e f
  rw [hf] at q
  refine I.write (x := l) (e := l) (by rw [hH]; exact trivial) (.inl rfl) (fun b' u hb hu => (Heap.get?_update_other s.heap (Obj.mapSeq f) (Ne.symm hb)).trans hu) ⟨_, q⟩ ?_
  exact ⟨hz, its', _, hv, q⟩
theorem Inv.lnew {its : List Value} {t' : Nat} (I : Inv X pins σ H s) (hv : Vals ys its) (hz : ys.length ≤ sizeLine) :
    Inv X pins σ (upd H s.heap.objs.size (.lst ys)) { s with heap := s.heap.push { cls := .type "list", data := .seq its.toArray }, toks := t' } :=
  I.laid (fun _ _ q => Heap.get?_push_of_some _ q) (Nat.le_refl _) ⟨hz, its, 0, hv, Heap.get?_push_size _ rfl⟩
theorem Inv.fresh (I : Inv X pins σ H s) : H s.heap.objs.size = none := I.hok.fresh (Nat.le_refl _)
theorem Inv.lstM (I : Inv X pins σ H s) (hH : H l = some (.lst xs)) : xs.length ≤ sizeLine ∧ ∃ (its : List Value) (n : Nat), Vals xs its ∧ xs.length = its.length ∧ s.heap.get? l = some { cls := .type "list", data := .seq its.toArray n } := by
  obtain ⟨z, its, n, r, e⟩ := I.hok l _ hH
  exact ⟨z, its, n, r, r.length, e⟩

theorem notLongL {n : Nat} (h : n ≤ sizeLine) : Builtin.List.listTooLong n = false := by
  unfold Builtin.List.listTooLong
  exact decide_eq_false (by omega)
end

section
variable {X : Cx}

/-! ### methods -/
def rAppend : V → List V → Hp → VK → Prop := fun x vs H Q => ∃ l xs y, x = .ref l ∧ vs = [y] ∧ H l = some (.lst xs) ∧ xs.length < sizeLine ∧ Q .non (upd H l (.lst (xs ++ [y])))
theorem mt_append : MtM X "list.append" rAppend := by
  intro pins s σ H x vs v us Q I rx rv h
  obtain ⟨l, xs, y, rfl, rfl, hH, hz, q⟩ := h
  cases rx
  obtain ⟨u, rfl, ru⟩ := rv.one
  obtain ⟨z, its, n, r, hl, e⟩ := I.lstM hH
  refine call_meets F.slot_list_append ⟨_, e, rfl⟩ F.entry_list_append (F.args_list_append_2 _ _) (PySem.list_append l its.toArray n u (by rw [List.size_toArray]; omega)) ⟨e, ?_⟩
  refine ⟨.non, _, I.lset (its' := its ++ [u]) hH e (by simp) (r.append (.cons ru .nil)) ?_, rfl, q⟩
  rw [List.length_append, List.length_singleton]
  omega

def rExtend : V → List V → Hp → VK → Prop := fun x vs H Q => ∃ l b xs zs, x = .ref l ∧ vs = [.ref b] ∧ H l = some (.lst xs) ∧ H b = some (.lst zs) ∧ xs.length + zs.length ≤ sizeLine ∧ Q .non (upd H l (.lst (xs ++ zs)))
theorem mt_extend : MtM X "list.extend" rExtend := by
  intro pins s σ H x vs v us Q I rx rv h
  obtain ⟨l, b, xs, zs, rfl, rfl, hH, hB, hz, q⟩ := h
  cases rx
  obtain ⟨u, rfl, ru⟩ := rv.one
  cases ru
  obtain ⟨z, its, n, r, hl, e⟩ := I.lstM hH
  obtain ⟨z2, its2, n2, r2, hl2, e2⟩ := I.lstM hB
  have hsz : its.toArray.size + its2.toArray.size ≤ sizeLine := by rw [List.size_toArray, List.size_toArray]; omega
  have hlong : ¬ (!its.toArray.isEmpty && Builtin.List.listTooLong (its.toArray.size + its2.toArray.size)) = true := by
    rw [notLongL hsz, Bool.and_false]
    exact Bool.false_ne_true
  refine call_meets F.slot_list_extend ⟨_, e, rfl⟩ F.entry_list_extend (F.args_list_extend_2 _ _)
    (AutoSeq1.list_extend_list_list_0 l its.toArray n b its2.toArray n2 hlong (by rw [List.size_toArray]; omega) (by omega)) ⟨e, e2, ?_⟩
  refine ⟨.non, _, I.lset (its' := its ++ its2) hH e (by simp) (r.append r2) ?_, rfl, q⟩
  rw [List.length_append]
  omega

/-! ### list + list, list += list, list * int -/
def rCat : R2 := fun x y H Q => ∃ l b xs zs, x = .ref l ∧ y = .ref b ∧ H l = some (.lst xs) ∧ H b = some (.lst zs) ∧ xs.length + zs.length ≤ sizeLine ∧ ∀ p, H p = none → Q (.ref p) (upd H p (.lst (xs ++ zs)))
theorem op_cat : OpR X (binaryOp .Add) rCat := by
  intro pins s σ H x y v u Q I rx ry h
  obtain ⟨l, b, xs, zs, rfl, rfl, hH, hB, hz, q⟩ := h
  cases rx
  cases ry
  obtain ⟨z, its, n, r, hl, e⟩ := I.lstM hH
  obtain ⟨z2, its2, n2, r2, hl2, e2⟩ := I.lstM hB
  refine PySem.P.add_list e e2 ?_ (by rw [List.size_toArray, List.size_toArray]; omega)
  have ea : its.toArray ++ its2.toArray = (its ++ its2).toArray := by simp
  rw [ea]
  exact ⟨.ref _, _, I.lnew (t' := s.toks) (r.append r2) (by rw [List.length_append]; omega), rfl, q _ I.fresh⟩
/-- a list times an int (a negative one is nothing) -/
def rRep : R2 := fun x y H Q => ∃ l k xs, x = .ref l ∧ y = .int k ∧ H l = some (.lst xs) ∧ -(2 ^ 63) ≤ k ∧ k < 2 ^ 63 ∧ xs.length * k.toNat ≤ sizeLine ∧
  ∀ p, H p = none → Q (.ref p) (upd H p (.lst (List.replicate k.toNat xs).flatten))
theorem len_rep {α : Type} (xs : List α) (k : Nat) : (List.replicate k xs).flatten.length = k * xs.length := by
  induction k with
  | zero => simp
  | succ k ih => rw [List.replicate_succ, List.flatten_cons, List.length_append, ih, Nat.succ_mul, Nat.add_comm]
theorem op_rep : OpR X (binaryOp .Mult) rRep := by
  intro pins s σ H x y v u Q I rx ry h
  obtain ⟨l, k, xs, rfl, rfl, hH, h1, h2, hz, q⟩ := h
  cases rx
  obtain ⟨t, rfl⟩ := ry
  obtain ⟨z, its, n, r, hl, e⟩ := I.lstM hH
  have hlen : its.toArray.size * k.toNat ≤ sizeLine := by rw [List.size_toArray, ← hl]; exact hz
  have hcap : ¬ its.toArray.size * k.toNat > (2 ^ 63 - 1) / 8 := by
    have : (sizeLine : Nat) ≤ (2 ^ 63 - 1) / 8 := by decide
    omega
  have hfit : ¬ (!Builtin.List.listFitsIndex k) = true := by
    rw [fitsIndex_both h1 h2]
    exact Bool.false_ne_true
  have hlong : ¬ Builtin.List.listTooLong (its.toArray.size * k.toNat) = true := by
    rw [notLongL hlen]
    exact Bool.false_ne_true
  have hnew : List.foldl (fun x1 x2 => x1 ++ x2) #[] (List.replicate (if its.toArray.isEmpty = true then 0 else k.toNat) its.toArray) = (List.replicate k.toNat its).flatten.toArray := by
    have f0 : ∀ m : Nat, List.foldl (fun x1 x2 => x1 ++ x2) #[] (List.replicate m its.toArray) = (List.replicate m its).flatten.toArray := fun m => by
      have := foldl_rep its m []
      rw [List.nil_append] at this
      exact this
    rw [f0]
    cases its with
    | nil => simp
    | cons a r' => rw [if_neg (by simp)]
  refine wpAny_binaryOp_repeat_ref (T := "list") (U := "int") (by decide) ⟨_, e, rfl⟩ (fun s' => typeIs_int s' k t) noFill_list_mul F.fills_int_mul F.slot_int_rmul repeat_list F.slot_int_index.lookup
    (call_meets F.slot_int_rmul (typeIs_int s k t) F.entry_int_rmul (F.args_int_rmul_2 _ _) (int___rmul___int_list k t l its.toArray n)
      ⟨e, rfl, ⟨_, e, rfl⟩, call_meets F.slot_list_mul ⟨_, e, rfl⟩ F.entry_list_mul (F.args_list_mul_2 _ _) (AutoListH.list___mul___list_int_3 l its.toArray n k t hfit hcap hlong) ⟨e, ?_⟩⟩)
  rw [hnew]
  exact ⟨.ref _, _, I.lnew (t' := s.toks) (r.rep k.toNat) (by rw [len_rep, Nat.mul_comm]; exact hz), rfl, q _ I.fresh⟩

/-! ### del xs[i] -/
end

/-! ### xs[a:b] = ys -/
section
variable {prog : Program} {w : World} {A : Around} {E : Value → Shared → Prop} {s : Shared}
end

section
variable {X : Cx}
end
end L2

namespace L2
open PySem PySem.Spec PyProof.Rows

theorem vals_of_ints : ∀ {us : List Value} {ns : List Int}, IntsAre us ns → Vals (ns.map V.int) us
  | _, _, .nil => by rw [List.map_nil]; exact Paired.nil
  | _, _, .cons n t h => by rw [List.map_cons]; exact Paired.cons (show RelV (V.int n) (Value.int n t) from ⟨t, rfl⟩) (vals_of_ints h)
theorem vals_of_strs : ∀ {us : List Value} {xs : List Str}, StrsAre us xs → Vals (xs.map V.str) us
  | _, _, .nil => by rw [List.map_nil]; exact Paired.nil
  | _, _, .cons x t h => by rw [List.map_cons]; exact Paired.cons (show RelV (V.str x) (Value.str x t) from ⟨t, rfl⟩) (vals_of_strs h)
theorem Vals.bls : ∀ {bs : List Bool} {us : List Value}, Vals (bs.map V.bl) us → us = bs.map Value.bool
  | [], us, h => by
    rw [List.map_nil] at h
    cases h
    rfl
  | b :: bs, us, h => by
    rw [List.map_cons] at h
    cases h with
    | cons r t =>
      cases r
      rw [Vals.bls t, List.map_cons]
theorem Vals.ref1 {a : Addr} {us : List Value} (r : Vals [V.ref a] us) : us = [Value.ref a] := by
  cases r with
  | cons r t =>
    cases t
    cases r
    rfl
/-! ### the library's walks over a list of ints, kept objects alone -/
section
variable {prog : Program} {w : World} {A : Around} {E : Value → Shared → Prop} {s : Shared} {l : Addr} {its : List Value} {ns : List Int} {Q : Value → Shared → Prop}
end

/-! ### the calls, by values (CallR of 03t; MtR of 06l) -/
section
variable {X : Cx}
/-! sorted, sort (fewer than 64 items: the library's own bound) -/
end

/-! ### list.index, flat items -/
section
variable {X : Cx}
def rIndex (K : PySem.W.Frag) : V → List V → Hp → VK → Prop := fun x xs H Q => ∃ (a : Addr) (ys : List V) (y : V) (j : Nat) (z : V), x = V.ref a ∧ xs = [y] ∧ SqL K H a ys ∧ flatV y = true ∧ ys.all flatV = true ∧ ys[j]? = some z ∧ eqV z y = true ∧
  (∀ (m : Nat) (z' : V), m < j → ys[m]? = some z' → eqV z' y = false) ∧ Q (.int (j : Nat)) H
theorem flat_at {ys : List V} (f : ys.all flatV = true) {j : Nat} {z : V} (h : ys[j]? = some z) : flatV z = true := List.all_eq_true.mp f z (List.mem_of_getElem? h)
theorem mt_index : MtR X "list.index" (rIndex X.K) := by
  intro pins s σ H x xs v us Q I rx rxs h
  obtain ⟨a, ys, y, j, z, rfl, rfl, hs, fy, fys, hz, hzj, hno, q⟩ := h
  cases rx
  cases rxs with
  | cons ry rt =>
    rename_i uy ut
    cases rt
    obtain ⟨its, rv, ⟨⟨cls, dd, data, sl⟩, n, ho, hc, hdn, hd⟩, hlen⟩ := I.list hs
    simp only at hc hd
    subst hc hd
    obtain ⟨u, hu, ru⟩ := rv.get hz
    obtain ⟨hjl, hje⟩ := List.getElem?_eq_some_iff.mp hu
    have hvl := rv.length
    have hj : j < its.toArray.size := by simpa using hjl
    have hsl := sizeLine_eq
    refine call_meets PySem.F.slot_list_index ⟨_, ho, rfl⟩ PySem.F.entry_list_index (PySem.F.args_list_index_2 _ _)
      (SeqAt.list_indexAt a its.toArray n dd sl uy (eqU y) j hj (by omega) ?_ ?_) ⟨ho, fun u' hu' => mem_eqAt ry fy rv fys u' (by simpa using hu'), ?_⟩
    · have e1 : its.toArray[j] = u := by simpa using hje
      rw [e1, eqU_of ru (flat_at fys hz)]
      exact hzj
    · intro m hm hmj
      have hml : m < its.length := by simpa using hm
      have hmy : m < ys.length := by omega
      have hy' : ys[m]? = some ys[m] := List.getElem?_eq_getElem hmy
      obtain ⟨u2, hu2, ru2⟩ := rv.get hy'
      obtain ⟨_, hme⟩ := List.getElem?_eq_some_iff.mp hu2
      have e1 : its.toArray[m] = u2 := by simpa using hme
      rw [e1, eqU_of ru2 (flat_at fys hy')]
      exact hno m _ hmj hy'
    · exact ⟨.int (j : Nat), H, I.tok _, ⟨_, rfl⟩, q⟩
end

/-! ### type(x) of an own instance; is, is not of a module's class -/
section
variable {X : Cx}
end

/-! ### any(xs), all(xs) of a list of bools -/
theorem iter_any {prog : Program} {w : World} {A : Around} {E : Value → Shared → Prop} {s : Shared} {l : Addr} {items : Array Value} {Q : Value → Shared → Prop} (hl : s.heap.IsList l items)
    (h : ∀ s₂ : Shared, s₂ = { s with heap := s.heap.push { cls := .type "list_iterator", data := .fields #[.ref l, .int 0 0] } } →
      (s₂.heap.IsListIter s.heap.objs.size l 0 ∧ s₂.heap.IsList l items) → l ≠ s.heap.objs.size → Q (.ref s.heap.objs.size) s₂) : wpAny (model prog w) A (pyIter (.ref l)) Q E s := by
  have hlt : l < s.heap.objs.size := by obtain ⟨_, e, _⟩ := hl; exact Heap.lt_size e
  exact wpAny_pyIter_list hl (h _ rfl ⟨⟨_, Heap.get?_push_size _ rfl, rfl, rfl⟩, hl.push _⟩ (Nat.ne_of_lt hlt))
theorem truth_bools {prog : Program} {w : World} {A : Around} {bs : List Bool} {its : List Value} (e : its = bs.map Value.bool) :
    TruthOf prog w A (fun i v => its.toArray[i]? = some v) (fun i => bs.getD i false) := fun i v s Q E hv hq => by
  have hv' : its[i]? = some v := by simpa using hv
  rw [e, List.getElem?_map] at hv'
  obtain ⟨b, hb, rfl⟩ := Option.map_eq_some_iff.mp hv'
  have hg : bs.getD i false = b := by rw [List.getD_eq_getElem?_getD, hb] <;> rfl
  have hq' : Q (bs.getD i false) s := hq
  rw [hg] at hq'
  exact wpAny_truthy_bool hq'
theorem any_range : ∀ bs : List Bool, (List.range bs.length).any (fun i => bs.getD i false) = bs.any id
  | [] => rfl
  | b :: bs => by
    rw [List.length_cons, List.range_succ_eq_map, List.any_cons, List.any_map, List.any_cons, ← any_range bs]
    all_goals rfl
theorem all_range : ∀ bs : List Bool, (List.range bs.length).all (fun i => bs.getD i false) = bs.all id
  | [] => rfl
  | b :: bs => by
    rw [List.length_cons, List.range_succ_eq_map, List.all_cons, List.all_map, List.all_cons, ← all_range bs]
    all_goals rfl
section
variable {X : Cx}
def rAll (K : PySem.W.Frag) : List V → Hp → VK → Prop := fun vs H Q => ∃ (a : Addr) (bs : List Bool), vs = [V.ref a] ∧ SqL K H a (bs.map V.bl) ∧ Q (.bl (bs.all id)) H
theorem cr_all (hc : X.calm = true) : CallR X (.builtin "all") (rAll X.K) := by
  intro pins s σ H vs us Q I r h
  obtain ⟨a, bs, rfl, hs, q⟩ := h
  obtain ⟨its, rv, hl, _⟩ := I.list hs
  rw [Vals.ref1 r]
  have hb := rv.bls
  refine call_all_walk (iter_any hl.isList fun s₂ e2 st hne => ?_)
  subst e2
  refine ⟨_, _, _, _, _, _, _, rfl, Walks.list (A := X.A.in1) (I.ok.hd hc) _ a hne its.toArray, st, truth_bools hb, fun h' tk hk => ?_⟩
  refine ⟨.bl _, H, I.kept fun b o eo => hk b o (fun hmem => ?_) (Heap.get?_push_of_some _ eo), ?_, q⟩
  · rcases List.mem_cons.mp hmem with e1 | hmem
    · exact absurd (e1 ▸ Heap.lt_size eo) (Nat.lt_irrefl _)
    · cases hmem
  · show Value.bool _ = Value.bool _
    rw [← all_range, hb, List.size_toArray, List.length_map]
end

/-! ### == and != of data at any depth: none, bools, ints, texts, lists, tuples -/
mutual
inductive Dp (K : PySem.W.Frag) (H : Hp) : V → PyData → Prop
  | non : Dp K H .non .none
  | bl (b : Bool) : Dp K H (.bl b) (.bool b)
  | int (i : Int) : Dp K H (.int i) (.int i)
  | str (x : Str) : Dp K H (.str x) (.str x)
  | lst {a : Addr} {xs : List V} {ds : List PyData} : SqL K H a xs → DpAll K H xs ds → Dp K H (.ref a) (.list ds)
  | tup {a : Addr} {xs : List V} {ds : List PyData} : SqT K H a xs → DpAll K H xs ds → Dp K H (.ref a) (.tuple ds)
inductive DpAll (K : PySem.W.Frag) (H : Hp) : List V → List PyData → Prop
  | nil : DpAll K H [] []
  | cons {v : V} {vs : List V} {d : PyData} {ds : List PyData} : Dp K H v d → DpAll K H vs ds → DpAll K H (v :: vs) (d :: ds)
end
section
variable {X : Cx} {pins : List (Addr × Obj)} {σ : St} {H : Hp} {s : Shared}
mutual
theorem Dp.reads (I : Inv X pins σ H s) : ∀ (d : PyData) (v : V) (u : Value), Dp X.K H v d → RelV v u → ∃ as, Reads s.heap u d as
  | .none, _, _, h, r => by
    cases h
    cases r
    exact ⟨_, Reads.none⟩
  | .bool b, _, _, h, r => by
    cases h
    cases r
    exact ⟨_, Reads.bool b⟩
  | .int i, _, _, h, r => by
    cases h
    obtain ⟨t, rfl⟩ := r
    exact ⟨_, Reads.int i t⟩
  | .str x, _, _, h, r => by
    cases h
    obtain ⟨t, rfl⟩ := r
    exact ⟨_, Reads.str x t⟩
  | .list ds, _, _, h, r => by
    cases h with
    | lst hs ha =>
      cases r
      obtain ⟨its, rv, ⟨o, n, ho, hc, _, hd⟩, _⟩ := I.list hs
      obtain ⟨as, hr⟩ := Dp.readsAll I ds _ its ha rv
      exact ⟨_, Reads.list ho hc hd hr⟩
  | .tuple ds, _, _, h, r => by
    cases h with
    | tup hs ha =>
      cases r
      obtain ⟨its, rv, ⟨o, ho, hc, n, hd⟩, _⟩ := I.tuple hs
      obtain ⟨as, hr⟩ := Dp.readsAll I ds _ its ha rv
      exact ⟨_, Reads.tuple ho hc hd hr⟩
  | .dict _, _, _, h, _ => by cases h
theorem Dp.readsAll (I : Inv X pins σ H s) : ∀ (ds : List PyData) (vs : List V) (us : List Value), DpAll X.K H vs ds → Vals vs us → ∃ as, ReadsAll s.heap us ds as
  | [], _, _, h, r => by
    cases h
    cases r
    exact ⟨_, ReadsAll.nil⟩
  | d :: ds, _, _, h, r => by
    cases h with
    | cons h1 h2 =>
      cases r with
      | cons r1 r2 =>
        obtain ⟨as, q1⟩ := Dp.reads I d _ _ h1 r1
        obtain ⟨bs, q2⟩ := Dp.readsAll I ds _ _ h2 r2
        exact ⟨_, ReadsAll.cons q1 q2⟩
end
end
section
variable {X : Cx}
def rEqD (K : PySem.W.Frag) : R2 := fun x y H Q => ∃ d e, Dp K H x d ∧ Dp K H y e ∧ SeqAt.shaped d = true ∧ SeqAt.shaped e = true ∧ Q (.bl (PyData.eqv d e)) H
theorem op_eqD (hu : X.A.units + 64 < cLine) : OpR X (compareOp .Eq) (rEqD X.K) := by
  intro pins s σ H x y v u Q I rx ry h
  obtain ⟨d, e, hd, he, sd, se, q⟩ := h
  obtain ⟨as, r1⟩ := Dp.reads I d x v hd rx
  obtain ⟨bs, r2⟩ := Dp.reads I e y u he ry
  exact SeqAt.compareEq_shaped r1 r2 sd se hu ⟨.bl _, H, I, rfl, q⟩
end
end L2

namespace L2
open PySem PySem.Spec PyProof.Rows
abbrev CellAt (h : Heap) (c : Addr) (v : Option Value) : Prop := h.IsCell c v
def relS (scope sc : Scope) : Scope :=
  { scope with names := scope.names.map fun (n, k) => if (k == .free && sc.kind == .function && sc.names.lookup n == some .cell) then (n, .cell) else (n, k) }

def cloFrom (cells : List (Str × Addr)) : List (Str × NameKind) → List (Str × Addr) → List (Str × Addr)
  | [], acc => acc
  | (n, k) :: r, acc => if k == .free then cloFrom cells r ((n, (cells.lookup n).getD 0) :: acc) else cloFrom cells r acc

theorem closure_loop (env : Env) (f : Str × NameKind → List (Str × Addr) → Sem (ForInStep (List (Str × Addr))))
    (hf : ∀ n k c, f (n, k) c = if k == .free then (do let a ← cellOf env n; pure (.yield ((n, a) :: c))) else pure (.yield c)) :
    ∀ (names : List (Str × NameKind)) (acc : List (Str × Addr)), (∀ y ∈ names, y.2 = .free → ∃ c, env.cells.lookup y.1 = some c) → forIn names acc f = pure (cloFrom env.cells names acc)
  | [], acc, _ => by rw [List.forIn_nil]; rfl
  | (n, k) :: r, acc, h => by
    rw [List.forIn_cons, hf]
    have ih := fun acc => closure_loop env f hf r acc fun y hy => h y (List.mem_cons_of_mem _ hy)
    unfold cloFrom
    by_cases hk : (k == NameKind.free) = true
    · rw [if_pos hk, if_pos hk]
      obtain ⟨c, hc⟩ := h (n, k) List.mem_cons_self (by simpa using hk)
      have e : cellOf env n = pure c := by unfold cellOf; rw [hc]
      rw [e]
      have e2 : (env.cells.lookup n).getD 0 = c := by rw [hc]; rfl
      rw [e2]
      exact ih _
    · rw [if_neg hk, if_neg hk]
      exact ih _
theorem closure_ok {scope : Scope} {env : Env} (h : ∀ y ∈ scope.names, y.2 = .free → ∃ c, env.cells.lookup y.1 = some c) : closureFor scope env = pure (cloFrom env.cells scope.names []) := by
  simp only [closureFor]
  rw [closure_loop env _ (fun n k c => rfl) scope.names [] h]
  rfl

theorem mem_lookup {α : Type} : ∀ {l : List (Str × α)} {n : Str} {c : α}, (n, c) ∈ l → ∃ c', l.lookup n = some c'
  | (k, v) :: r, n, c, h => by
    rw [List.lookup_cons]
    cases hb : n == k with
    | true => exact ⟨_, rfl⟩
    | false =>
      rcases List.mem_cons.mp h with e | h
      · cases e; simp at hb
      · exact mem_lookup h

theorem cloFrom_mem {cells : List (Str × Addr)} : ∀ {names : List (Str × NameKind)} {acc : List (Str × Addr)} {n : Str} {c : Addr}, (n, c) ∈ cloFrom cells names acc → (n, c) ∈ acc ∨ ((n, .free) ∈ names ∧ c = (cells.lookup n).getD 0)
  | [], _, _, _, h => .inl h
  | (m, k) :: r, acc, n, c, h => by
    unfold cloFrom at h
    split at h
    · rename_i hk
      have hk : k = .free := by simpa using hk
      rcases cloFrom_mem h with h | ⟨h1, h2⟩
      · rcases List.mem_cons.mp h with e | h
        · cases e; exact .inr ⟨hk ▸ List.mem_cons_self, rfl⟩
        · exact .inl h
      · exact .inr ⟨List.mem_cons_of_mem _ h1, h2⟩
    · rcases cloFrom_mem h with h | ⟨h1, h2⟩
      · exact .inl h
      · exact .inr ⟨List.mem_cons_of_mem _ h1, h2⟩
theorem cloFrom_acc {cells : List (Str × Addr)} : ∀ {names : List (Str × NameKind)} {acc : List (Str × Addr)} {p : Str × Addr}, p ∈ acc → p ∈ cloFrom cells names acc
  | [], _, _, h => h
  | (m, k) :: r, acc, p, h => by
    unfold cloFrom
    split
    · exact cloFrom_acc (List.mem_cons_of_mem _ h)
    · exact cloFrom_acc h
theorem cloFrom_has {cells : List (Str × Addr)} : ∀ {names : List (Str × NameKind)} {acc : List (Str × Addr)} {n : Str}, (n, .free) ∈ names → (n, (cells.lookup n).getD 0) ∈ cloFrom cells names acc
  | (m, k) :: r, acc, n, h => by
    unfold cloFrom
    rcases List.mem_cons.mp h with e | h
    · cases e
      exact cloFrom_acc List.mem_cons_self
    · split
      · exact cloFrom_has h
      · exact cloFrom_has h

theorem cells_mem : ∀ {names : List (Str × NameKind)} {h : Heap} {acc : List (Str × Addr)} {x : Str} {c : Addr}, (x, c) ∈ cellsFrom h.objs.size names acc →
    (x, c) ∈ acc ∨ ((x, .cell) ∈ names ∧ h.objs.size ≤ c ∧ CellAt (pushCells h names) c none)
  | [], _, _, _, _, h => .inl h
  | (n, k) :: r, h, acc, x, c, hm => by
    unfold cellsFrom at hm
    unfold pushCells
    split at hm
    · rename_i hk
      rw [if_pos hk]
      have hk : k = .cell := by simpa using hk
      rw [← Heap.size_push h { cls := .type "cell", data := .cell none }] at hm
      rcases cells_mem hm with hm | ⟨h1, h2, h3⟩
      · rcases List.mem_cons.mp hm with e | hm
        · cases e
          exact .inr ⟨hk ▸ List.mem_cons_self, Nat.le_refl _, _, pushCells_keeps r _ _ _ (Heap.get?_push_size _ rfl), rfl⟩
        · exact .inl hm
      · rw [Heap.size_push] at h2
        exact .inr ⟨List.mem_cons_of_mem _ h1, Nat.le_of_succ_le h2, h3⟩
    · rename_i hk
      rw [if_neg hk]
      rcases cells_mem hm with hm | ⟨h1, h2, h3⟩
      · exact .inl hm
      · exact .inr ⟨List.mem_cons_of_mem _ h1, h2, h3⟩
theorem cells_acc : ∀ {names : List (Str × NameKind)} {n : Nat} {acc : List (Str × Addr)} {p : Str × Addr}, p ∈ acc → p ∈ cellsFrom n names acc
  | [], _, _, _, h => h
  | (m, k) :: r, n, acc, p, h => by
    unfold cellsFrom
    split
    · exact cells_acc (List.mem_cons_of_mem _ h)
    · exact cells_acc h
theorem cells_has : ∀ {names : List (Str × NameKind)} {n : Nat} {acc : List (Str × Addr)} {x : Str}, (x, .cell) ∈ names → ∃ c, (x, c) ∈ cellsFrom n names acc
  | (m, k) :: r, n, acc, x, h => by
    unfold cellsFrom
    rcases List.mem_cons.mp h with e | h
    · cases e
      exact ⟨n, cells_acc List.mem_cons_self⟩
    · split
      · exact cells_has h
      · exact cells_has h
theorem cells_inj : ∀ {names : List (Str × NameKind)} {h : Heap} {acc : List (Str × Addr)} {x y : Str} {c : Addr}, (∀ p ∈ acc, p.2 < h.objs.size) → (∀ x y c, (x, c) ∈ acc → (y, c) ∈ acc → x = y) →
    (x, c) ∈ cellsFrom h.objs.size names acc → (y, c) ∈ cellsFrom h.objs.size names acc → x = y
  | [], _, _, _, _, _, _, hi, h1, h2 => hi _ _ _ h1 h2
  | (n, k) :: r, h, acc, x, y, c, hl, hi, h1, h2 => by
    unfold cellsFrom at h1 h2
    split at h1
    · rename_i hk
      rw [if_pos hk] at h2
      rw [← Heap.size_push h { cls := .type "cell", data := .cell none }] at h1 h2
      refine cells_inj (h := h.push _) (fun p hp => ?_) (fun x y c a b => ?_) h1 h2
      · rw [Heap.size_push]
        rcases List.mem_cons.mp hp with rfl | hp
        · exact Nat.lt_succ_self _
        · exact Nat.lt_succ_of_lt (hl p hp)
      · rcases List.mem_cons.mp a with e | a <;> rcases List.mem_cons.mp b with e' | b
        · cases e; cases e'; rfl
        · cases e; exact absurd (hl _ b) (Nat.lt_irrefl _)
        · cases e'; exact absurd (hl _ a) (Nat.lt_irrefl _)
        · exact hi _ _ _ a b
    · rename_i hk
      rw [if_neg hk] at h2
      exact cells_inj hl hi h1 h2

theorem newEnv_comp {M : Model} {A : Around} {E : Value → Shared → Prop} {s : Shared} {scope : Scope} {globals : Addr} {closure : List (Str × Addr)} {qual : Str} {func : Option Addr} {code : Value} {around : Env} {builtins : Addr} {Q : Env → Shared → Prop}
    (h : Q (newEnv scope s.heap.objs.size globals (cellsFrom (s.heap.objs.size + 1) scope.names closure) qual func code (some around) builtins)
      { s with heap := pushCells (s.heap.push { cls := .type "dict", data := .dict #[] }) scope.names }) :
    wpAny M A (newFunctionEnv scope globals closure [] qual func code (some around) builtins) Q E s := by
  simp only [newFunctionEnv, Option.isSome_some, if_true]
  refine wpAny_bind (wpAny_alloc ?_)
  refine wpAny_bind (wpAny_layCells _ (fun n k c => rfl) scope.names closure _ _ ?_)
  rw [show ({ s with heap := s.heap.push { cls := .type "dict", data := .dict #[] } } : Shared).heap.objs.size = s.heap.objs.size + 1 from Heap.size_push ..]
  rw [List.forIn_nil]
  exact wpAny_bind (wpAny_pure (wpAny_pure h))

/-- every name of the written scope, in the scope that runs -/
theorem lookup_relS {sc : Scope} : ∀ {names : List (Str × NameKind)} {x : Str} {k : NameKind},
    (names.map fun (n, k) => if (k == NameKind.free && sc.kind == .function && sc.names.lookup n == some .cell) then (n, NameKind.cell) else (n, k)).lookup x = some k →
    ∃ k', names.lookup x = some k' ∧ (k = k' ∨ (k' = .free ∧ k = .cell))
  | [], _, _, h => by simp at h
  | (n, k₀) :: r, x, k, h => by
    have ih := @lookup_relS sc r x k
    have h' : List.lookup x ((if (k₀ == NameKind.free && sc.kind == .function && sc.names.lookup n == some .cell) = true then (n, NameKind.cell) else (n, k₀)) :: (r.map _)) = some k := h
    cases hx : x == n with
    | true =>
      simp only [List.lookup_cons, hx]
      by_cases hc : (k₀ == NameKind.free && sc.kind == .function && sc.names.lookup n == some .cell) = true
      · rw [if_pos hc] at h'
        simp only [List.lookup_cons, hx] at h'
        cases h'
        simp only [Bool.and_eq_true, beq_iff_eq] at hc
        exact ⟨k₀, rfl, .inr ⟨hc.1.1, rfl⟩⟩
      · rw [if_neg hc] at h'
        simp only [List.lookup_cons, hx] at h'
        cases h'
        exact ⟨_, rfl, .inl rfl⟩
    | false =>
      simp only [List.lookup_cons, hx]
      by_cases hc : (k₀ == NameKind.free && sc.kind == .function && sc.names.lookup n == some .cell) = true
      · rw [if_pos hc] at h'
        simp only [List.lookup_cons, hx] at h'
        exact ih h'
      · rw [if_neg hc] at h'
        simp only [List.lookup_cons, hx] at h'
        exact ih h'
/-- the names of a comprehension's block: its own (with their places in N), or captured -/
structure BlkOk (N : List Str) (sc scope : Scope) (own : List (Str × Nat)) : Prop where
  kind : scope.kind = .function
  uniq : ∀ y ∈ scope.names, scope.names.lookup y.1 = some y.2
  ix : ∀ p ∈ own, N[p.2]? = some p.1
  free : ∀ y ∈ scope.names, y.2 = .free → sc.names.lookup y.1 = some .cell ∨ sc.names.lookup y.1 = some .free
  own : ∀ y ∈ scope.names, y.2 = .local ∨ y.2 = .cell → y.1 ∈ own.map (·.1) ∨ y.1 ∉ N
/-- the slots of the block's own names forgotten -/
def wipe (σ : St) : List Nat → St
  | [] => σ
  | v :: vs => (wipe σ vs).set v none
theorem wipe_length (σ : St) : ∀ vs : List Nat, (wipe σ vs).length = σ.length
  | [] => rfl
  | v :: vs => by unfold wipe; rw [List.length_set, wipe_length σ vs]
theorem wipe_some {σ : St} {i : Nat} {x : V} : ∀ {vs : List Nat}, (wipe σ vs)[i]? = some (some x) → σ[i]? = some (some x) ∧ i ∉ vs
  | [], h => ⟨h, by simp⟩
  | v :: vs, h => by
    unfold wipe at h
    by_cases hi : v = i
    · subst hi
      by_cases hv : v < (wipe σ vs).length
      · rw [List.getElem?_set_self hv] at h; cases h
      · rw [List.getElem?_eq_none (by simpa using hv)] at h; cases h
    · rw [List.getElem?_set_ne hi] at h
      obtain ⟨h1, h2⟩ := wipe_some h
      exact ⟨h1, by simp only [List.mem_cons, not_or]; exact ⟨fun e => hi e.symm, h2⟩⟩

/-- the context of a block that starts at s, its iterator's objects at fp -/
abbrev Cx.blk (X : Cx) (s : Shared) (H : Hp) (scope : Scope) (cenv : Env) (fp : List Addr) : Cx := { X with s_0 := s, H_0 := H, env := cenv, outer := X.stack, ex := fp, fn := fun x => scope.names.lookup x == some .cell, pn := [], xe := fun _ _ => False }
section
variable {X : Cx} {pins : List (Addr × Obj)} {σ : St} {H : Hp} {s : Shared}
theorem block_start {scope : Scope} {own : List (Str × Nat)} {fp : List Addr} (I : Inv X pins σ H s) (ok : BlkOk X.N X.env.scope scope own) (hN : X.N.Nodup) (hfp : ∀ b ∈ fp, FpOk X pins H b ∧ b < s.heap.objs.size) :
    Inv (X.blk s H scope (compEnvC scope (cellsFrom (s.heap.objs.size + 1) scope.names (cloFrom X.env.cells scope.names [])) s.heap.objs.size X.env) fp) [] (wipe σ (own.map (·.2))) H { s with heap := pushCells (s.heap.push { cls := .type "dict", data := .dict #[] }) scope.names } := by
  have hfree : ∀ y ∈ scope.names, y.2 = .free → ∃ c, X.env.cells.lookup y.1 = some c := fun y hy e => by
    rcases ok.free y hy e with k | k
    · exact I.ok.has _ (.inl k)
    · exact I.ok.has _ (.inr k)
  generalize hcenv : compEnvC scope (cellsFrom (s.heap.objs.size + 1) scope.names (cloFrom X.env.cells scope.names [])) s.heap.objs.size X.env = cenv
  have kp : ∀ b o, s.heap.get? b = some o → (pushCells (s.heap.push { cls := .type "dict", data := .dict #[] }) scope.names).get? b = some o := fun b o e => pushCells_keeps _ _ _ _ (Heap.get?_push_of_some _ e)
  have hL : cenv.locals = s.heap.objs.size := by rw [← hcenv]; rfl
  have hcl : cenv.cells = cellsFrom (s.heap.objs.size + 1) scope.names (cloFrom X.env.cells scope.names []) := by rw [← hcenv]; rfl
  have hsc : cenv.scope = relS scope X.env.scope := by rw [← hcenv]; rfl
  rw [← Heap.size_push s.heap { cls := .type "dict", data := .dict #[] }] at hcl
  have cm : ∀ {y c}, (y, c) ∈ cloFrom X.env.cells scope.names [] → X.env.cells.lookup y = some c ∧ c < s.heap.objs.size := fun {y c} hm => by
    rcases cloFrom_mem hm with hm | ⟨h1, rfl⟩
    · cases hm
    · obtain ⟨c, hc⟩ := hfree _ h1 rfl
      rw [hc]
      obtain ⟨w, z⟩ := I.cell _ _ hc
      exact ⟨rfl, z.lt⟩
  have mem : ∀ {y c}, cenv.cells.lookup y = some c → (X.env.cells.lookup y = some c ∧ c < s.heap.objs.size) ∨ (s.heap.objs.size + 1 ≤ c ∧ CellAt (pushCells (s.heap.push { cls := .type "dict", data := .dict #[] }) scope.names) c none) := fun {y c} e => by
    rw [hcl] at e
    rcases cells_mem (PySem.mem_of_lookup e) with hm | ⟨_, h2, h3⟩
    · exact .inl (cm hm)
    · rw [Heap.size_push] at h2; exact .inr ⟨h2, h3⟩
  have look : ∀ {y}, scope.names.lookup y = some .free → ∃ c, cenv.cells.lookup y = some c ∧ X.env.cells.lookup y = some c := fun {y} hl => by
    have hy : (y, NameKind.free) ∈ scope.names := PySem.mem_of_lookup hl
    obtain ⟨c', e'⟩ := mem_lookup (cells_acc (names := scope.names) (n := (s.heap.push { cls := .type "dict", data := .dict #[] }).objs.size) (cloFrom_has (cells := X.env.cells) (acc := []) hy))
    rw [← hcl] at e'
    refine ⟨c', e', ?_⟩
    rw [hcl] at e'
    rcases cells_mem (PySem.mem_of_lookup e') with hm | ⟨h1, _, _⟩
    · exact (cm hm).1
    · have := ok.uniq _ h1
      rw [hl] at this; cases this
  have okB : (X.blk s H scope cenv fp).Ok := by
    refine ⟨I.ok.mod, by show cenv.scope.kind = _; rw [hsc]; exact ok.kind, by show cenv.globals = _; rw [← hcenv]; exact I.ok.glob, by show cenv.builtins = _; rw [← hcenv]; exact I.ok.blt, by show s.heap.objs.size ≤ cenv.locals; rw [hL]; exact Nat.le_refl _,
      fun y z c e1 e2 => ?_, fun y hy => ?_, fun y c z e => ?_, I.ok.hd, I.ok.frames, .inl rfl, fun b hb => ⟨?_, fun y c e z => ?_⟩, I.bs, Nat.le_trans I.ok.bsz I.sz, fun b o e hb => ?_, fun b hb z => ?_, I.stack, I.stkFree⟩
    · have e1 : cenv.cells.lookup y = some c := e1
      have e2 : cenv.cells.lookup z = some c := e2
      rw [hcl] at e1 e2
      refine cells_inj (fun p hp => ?_) (fun y z c a b => I.ok.inj y z c (cm a).1 (cm b).1) (PySem.mem_of_lookup e1) (PySem.mem_of_lookup e2)
      rw [Heap.size_push]
      exact Nat.lt_succ_of_lt (cm (y := p.1) (c := p.2) hp).2
    · show ∃ c, cenv.cells.lookup y = some c
      have key : ∀ k, cenv.kindOf y = some k → (k = .cell ∨ k = .free) → ∃ c, cenv.cells.lookup y = some c := fun k hk hk' => by
        unfold Env.kindOf at hk
        rw [hsc] at hk
        obtain ⟨k', e, r⟩ := lookup_relS hk
        have : k' = .cell ∨ k' = .free := by
          rcases r with rfl | ⟨rfl, _⟩
          · exact hk'
          · exact .inr rfl
        rcases this with rfl | rfl
        · obtain ⟨c, hm⟩ := cells_has (n := (s.heap.push { cls := .type "dict", data := .dict #[] }).objs.size) (acc := cloFrom X.env.cells scope.names []) (PySem.mem_of_lookup e)
          obtain ⟨c', e'⟩ := mem_lookup hm
          exact ⟨c', by rw [hcl]; exact e'⟩
        · obtain ⟨c, h1, _⟩ := look e
          exact ⟨c, h1⟩
      rcases hy with hy | hy
      · exact key _ hy (.inl rfl)
      · exact key _ hy (.inr rfl)
    · have z : (scope.names.lookup y == some NameKind.cell) = true := z
      have z : scope.names.lookup y = some .cell := by simpa using z
      have e : cenv.cells.lookup y = some c := e
      rw [hcl] at e
      rcases cells_mem (PySem.mem_of_lookup e) with hm | ⟨_, h2, _⟩
      · rcases cloFrom_mem hm with hm | ⟨h1, _⟩
        · cases hm
        · have q := ok.uniq _ h1
          rw [z] at q; cases q
      · rw [Heap.size_push] at h2
        exact Nat.le_of_succ_le h2
    · show b ≠ cenv.locals
      rw [hL]; exact Nat.ne_of_lt (hfp b hb).2
    · have e : cenv.cells.lookup y = some c := e
      rcases mem e with ⟨h1, _⟩ | ⟨h1, _⟩
      · exact (hfp b hb).1.2.2.2.2.1 y c h1 z
      · have h2 : s.heap.objs.size + 1 ≤ b := by rw [← z]; exact h1
        exact absurd (Nat.lt_of_lt_of_le (hfp b hb).2 (Nat.le_of_succ_le h2)) (Nat.lt_irrefl _)
    · rcases (hfp b hb).1.2.2.2.1 with z | z
      · exact I.ok.noex b o e z
      · exact absurd (Nat.lt_of_lt_of_le (Heap.lt_size e) (Nat.le_trans I.ok.bsz z)) (Nat.lt_irrefl _)
    · rcases List.mem_cons.mp (I.stkSub b z) with z | z
      · exact (hfp b hb).1.2.1 z
      · exact (hfp b hb).1.2.2.1 z
  refine ⟨okB, rfl, I.bare, Un.kept kp, ⟨fun _ => none, ?_, fun i y av e1 e2 e3 => ?_⟩, fun y c e => ?_, ?_, fun y c e => ?_, fun p hp => ?_, I.hok.kept kp, by rw [wipe_length]; exact I.len⟩
  · show Heap.Ns _ cenv.locals _
    rw [hL]
    exact Heap.Ns.keeps (Heap.Ns.new ..) fun b o e => pushCells_keeps _ _ _ _ e
  · obtain ⟨e2, hne⟩ := wipe_some e2
    have hfr : scope.names.lookup y = some .free ∧ (cenv.kindOf y = some .cell ∨ cenv.kindOf y = some .free) := by
      have key : ∀ k, cenv.scope.names.lookup y = some k → k = .local ∨ k = .cell ∨ k = .free → scope.names.lookup y = some .free ∧ (cenv.kindOf y = some .cell ∨ cenv.kindOf y = some .free) := fun k hk hk' => by
        have hk0 := hk
        rw [hsc] at hk
        obtain ⟨k', e, r⟩ := lookup_relS hk
        have no : ¬ (k' = .local ∨ k' = .cell) := fun hh => by
          rcases ok.own _ (PySem.mem_of_lookup e) hh with e' | e'
          · obtain ⟨p, hp, hpy⟩ := List.mem_map.mp e'
            have e3 := ok.ix p hp
            have : p.1 = y := hpy
            rw [this] at e3
            exact hne (List.mem_map.mpr ⟨p, hp, nodup_ix hN e3 e1⟩)
          · exact e' (List.mem_of_getElem? e1)
        rcases r with rfl | ⟨rfl, rfl⟩
        · rcases hk' with rfl | rfl | rfl
          · exact absurd (.inl rfl) no
          · exact absurd (.inr rfl) no
          · exact ⟨e, .inr hk0⟩
        · exact ⟨e, .inl hk0⟩
      have e3 : Vis cenv.scope y := e3
      rcases e3 with e3 | e3 | e3
      · exact key _ e3 (.inl rfl)
      · exact key _ e3 (.inr (.inl rfl))
      · exact key _ e3 (.inr (.inr rfl))
    obtain ⟨m, hn, hl⟩ := I.loc
    have hvis : Vis X.env.scope y := (ok.free _ (PySem.mem_of_lookup hfr.1) rfl).elim (fun k => .inr (.inl k)) (fun k => .inr (.inr k))
    obtain ⟨w, r, q⟩ := hl i y av e1 e2 hvis
    refine ⟨w, r, .inr ⟨hfr.2, ?_⟩⟩
    obtain ⟨c, h1, h2⟩ := look hfr.1
    rcases q with ⟨k, _⟩ | ⟨_, c', e', z⟩
    · have k : X.env.scope.names.lookup y = some .local := k
      rcases ok.free _ (PySem.mem_of_lookup hfr.1) rfl with k' | k' <;> rw [show X.env.scope.names.lookup y = _ from k'] at k <;> cases k
    · rw [h2] at e'; cases e'
      exact ⟨c, h1, z.keeps kp⟩
  · have e : cenv.cells.lookup y = some c := e
    rcases mem e with ⟨h1, _⟩ | ⟨_, z⟩
    · obtain ⟨w, z⟩ := I.cell y c h1
      exact ⟨w, z.keeps kp⟩
    · exact ⟨_, z⟩
  · show H cenv.locals = none
    rw [hL]; exact I.hok.fresh (Nat.le_refl _)
  · have e : cenv.cells.lookup y = some c := e
    rcases mem e with ⟨h1, _⟩ | ⟨h1, _⟩
    · exact I.freeC y c h1
    · exact I.hok.fresh (Nat.le_of_succ_le h1)
  · exact absurd (show p ∈ ([] : List (Addr × Obj)) ++ [] from hp) (by simp)

/-- an item appended to a tracked list -/
theorem app_ok {E : Value → Shared → Prop} {D : Addr} {xs : List V} {y : V} {v : Value} {Q : Value → Shared → Prop} (I : Inv X pins σ H s) (hD : H D = some (.lst xs)) (hz : xs.length < sizeLine) (r : RelV y v)
    (h : ∀ s', Inv X pins σ (upd H D (.lst (xs ++ [y]))) s' → Q .none s') : wpAny (model X.prog X.w) X.A (call (.builtin "list.append") [.ref D, v]) Q E s := by
  obtain ⟨hz', its, n, ri, e⟩ := I.hok D _ hD
  have hl := ri.length
  refine append_at (hsz := by rw [List.size_toArray]; omega) e fun h' sb ho' => ?_
  refine h { s with heap := h' } (I.write (t' := s.toks) (by rw [hD]; trivial) (.inl rfl) (fun b u hb q => (sb.2 b hb).trans q) ⟨_, ho'⟩ ⟨by rw [List.length_append]; exact hz, its ++ [v], n + 1, ri.append (.cons r .nil), ?_⟩)
  rw [ho']
  simp

/-- a clause's tests -/
def PTs (X : Cx) (ifs : List Expr) (t : TT) : Prop :=
  ∀ (pins : List (Addr × Obj)) (s : Shared) (σ : St) (H : Hp) (Q : Bool → Hp → Prop), Inv X pins σ H s → t σ H Q →
    wpAny (model X.prog X.w) X.A (forIn ifs true fun c r => if r = true then do let ok ← isTrue c X.env (eval c X.env); pure (ForInStep.yield ok) else pure (ForInStep.yield r)) (TP X pins σ Q) X.xe s
def tYes : TT := fun _ H Q => Q true H
theorem pts_nil : PTs X [] tYes := fun _ _ _ H _ I h => wpAny_tests_nil ⟨H, I, h⟩
theorem pts_one {c : Expr} {t : TT} (h : PT X c t) : PTs X [c] t := fun pins s σ H Q I hw => wpAny_tests_one (h pins s σ H Q I hw)
end

theorem thnF {α : Type} {t : Sem α} {Q Q' : α → Shared → Prop} {M : Model} {A : Around} {E : Value → Shared → Prop} {s : Shared} (h : wpAny M A t Q (fun _ _ => False) s) (hQ : ∀ a s, Q a s → Q' a s) : wpAny M A t Q' E s := wpAny_mono h hQ fun _ _ z => False.elim z

/-- the loop of a list comprehension's block, the target of any form (codeAny_compLoop_tests asks a target that no tuple goes to; statement and proof follow it, PyProof/CompMap.lean:41-61, with the step letOwnedTupleGo kept) -/
theorem compLoop_any {prog : Program} {w : World} {A : Around} {R : Result → Shared → Prop} {s : Shared} {elt target iter : Expr} {ifs : List Expr} {scope : Scope} {pos : Pos} {it acc : Value} {env : Env} (I : Nat → Shared → Prop)
    (turn : ∀ n s, I n s → wpAny (model prog w) A (pyNext it) (fun r s₁ => match r with
      | none => R (.ok .next) s₁
      | some v => wpAny (model prog w) A (letOwnedTupleGo target it v) (fun _ s₁' => wpAny (model prog w) A (assign target env v) (fun _ s₂ =>
          wpAny (model prog w) A (forIn ifs true fun c r => if r = true then do let ok ← isTrue c env (eval c env); pure (ForInStep.yield ok) else pure (ForInStep.yield r)) (fun ok s₃ =>
            if ok = true then wpAny (model prog w) A (eval elt env) (fun x s₄ =>
              wpAny (model prog w) A (call (.builtin "list.append") [acc, x]) (fun _ s₅ => ∃ m, m < n ∧ I m s₅) (notedBy (model prog w) A env fun e s' => R (.error e) s') s₄) (notedBy (model prog w) A env fun e s' => R (.error e) s') s₃
            else ∃ m, m < n ∧ I m s₃) (notedBy (model prog w) A env fun e s' => R (.error e) s') s₂) (notedBy (model prog w) A env fun e s' => R (.error e) s') s₁') (notedBy (model prog w) A env fun e s' => R (.error e) s') s₁) (notedBy (model prog w) A env fun e s' => R (.error e) s') s)
    (n : Nat) (h : I n s) :
    codeAny (model prog w) A (.compLoop (.ListComp elt [⟨target, iter, ifs, 0⟩] scope pos) 0 it acc env) R s := by
  refine codeAny_loop rfl I (fun n s hI => ?_) n h
  show wpAny _ A ((compTurn (.ListComp elt [⟨target, iter, ifs, 0⟩] scope pos) 0 it acc env).onRaise (fun x => do noteFrame x env; theTreesLotGoes x)) _ _ s
  refine wpAny_noted ?_
  rw [compTurn_list]
  refine wpAny_bind (wpAny_standAt (wpAny_bind (wpAny_mono (turn n s hI) (fun r s₁ h₁ => ?_) fun _ _ h' => h')))
  cases r with
  | none => exact wpAny_pure h₁
  | some v =>
    refine wpAny_bind (wpAny_mono h₁ (fun _ s₁' h₁' => ?_) fun _ _ h' => h')
    refine wpAny_bind (wpAny_mono h₁' (fun _ s₂ h₂ => wpAny_bind (wpAny_mono h₂ (fun ok s₃ h₃ => ?_) fun _ _ h' => h')) fun _ _ h' => h')
    cases ok with
    | false => exact wpAny_pure ⟨rfl, h₃⟩
    | true =>
      exact wpAny_bind (wpAny_bind (wpAny_mono h₃ (fun x s₄ h₄ => wpAny_bind (wpAny_mono h₄ (fun _ s₅ h₅ => wpAny_pure (wpAny_pure ⟨rfl, h₅⟩)) fun _ _ h' => h')) fun _ _ h' => h'))

section
variable {X : Cx}
/-- [elt for target in iter if ..]: D the new list; W by the turn and a measure, Nx what a turn is to reach -/
def tLc (wi : TI) (g : TG) (tt : TT) (te : TE) (vs : List Nat) : TE := fun σ H Q => wi σ H fun J H1 => ∀ D, H1 D = none → ∃ W : Nat → Nat → Hp → Prop, (∃ m, W 0 m (upd H1 D (.lst []))) ∧ ∀ i m H, W i m H →
  (J.stop i H ∧ Q (.ref D) H) ∨ (J.go i H ∧ ∃ Nx : Hp → Prop, (∀ H', Nx H' → ∃ m', m' < m ∧ W (i + 1) m' H') ∧ ∀ x H', J.yld i H x H' → g x (wipe σ vs) H' fun σ2 H2 => wipe σ2 vs = wipe σ vs ∧ tt σ2 H2 fun b H3 =>
    if b = true then te σ2 H3 fun y H4 => ∃ acc, H4 D = some (.lst acc) ∧ acc.length < sizeLine ∧ Nx (upd H4 D (.lst (acc ++ [y]))) else Nx H3)
theorem lc_core {pins : List (Addr × Obj)} {s : Shared} {σ : St} {H : Hp} {Q : VK} {elt tg iter : Expr} {ifs : List Expr} {scope : Scope} {own : List (Str × Nat)} {pos pos' : Pos} {wi : TI} {g : TG} {tt : TT} {te : TE} {use : Option (Value → Sem Unit)} {Qf : Value → Shared → Prop}
    (hc : X.calm = true) (hN : X.N.Nodup) (I : Inv X pins σ H s) (hi : PI X tg iter wi) (ok : BlkOk X.N X.env.scope scope own)
    (hg : ∀ (s : Shared) (H : Hp) (C : Addr) (cl : List (Str × Addr)) (fp : List Addr), PG (X.blk s H scope (compEnvC scope cl C X.env) fp) tg g) (ht : ∀ (s : Shared) (H : Hp) (C : Addr) (cl : List (Str × Addr)) (fp : List Addr), PTs (X.blk s H scope (compEnvC scope cl C X.env) fp) ifs tt)
    (he : ∀ (s : Shared) (H : Hp) (C : Addr) (cl : List (Str × Addr)) (fp : List Addr), PE (X.blk s H scope (compEnvC scope cl C X.env) fp) elt te) (hs : ∀ x, foldedSetIterable iter X.env x = pure x)
    (h : tLc wi g tt te (own.map (·.2)) σ H Q)
    (hRR : ∀ D C s' m H', Inv X pins σ H' s' → Q (.ref D) H' → s'.heap.Ns C m → FpOk X pins H' C → compPost (model X.prog X.w) X.A X.xe use Qf (.ref D) C (.ok .next) s') :
    wpAny (model X.prog X.w) X.A (comprehension (.ListComp elt [⟨tg, iter, ifs, 0⟩] scope pos) scope X.env pos' (newList []) false (eval iter X.env) use) Qf X.xe s := by
  have hfree : ∀ y ∈ scope.names, y.2 = .free → ∃ c, X.env.cells.lookup y.1 = some c := fun y hy e => by
    rcases ok.free y hy e with k | k
    · exact I.ok.has _ (.inl k)
    · exact I.ok.has _ (.inr k)
  refine wpAny_comprehension_free (use := use) rfl hs (closure_ok hfree) ok.kind (fun y hy e => by rw [ok.uniq y hy, e])
    (thn (hi pins s σ H _ I h) fun xv s1 hx => thn hx fun itv s2 h2 => ?_)
  obtain ⟨it, fp, tn, J, H2, e, I2, T, st2, f2, q⟩ := h2
  subst e
  refine wpAny_newObj_type (newEnv_comp ?_) (by show 0 ≤ sizeLine; decide)
  generalize hD : s2.heap.objs.size = D
  have hDn : H2 D = none := I2.hok.fresh (Nat.le_of_eq hD)
  obtain ⟨W, ⟨m0, w0⟩, turn⟩ := q D hDn
  -- the new list
  generalize hs3 : ({ s2 with heap := s2.heap.push { cls := .type "list", data := .seq ([] : List Value).toArray } } : Shared) = s3
  have I3 : Inv X pins σ (upd H2 D (.lst [])) s3 := by
    rw [← hs3]
    refine I2.laid (t' := s2.toks) (fun b o e => Heap.get?_push_of_some _ e) (Nat.le_of_eq hD) ⟨Nat.zero_le _, [], 0, .nil, ?_⟩
    rw [← hD]
    exact Heap.get?_push_size _ rfl
  have h3 : s3.heap = s2.heap.push { cls := .type "list", data := .seq ([] : List Value).toArray } := by rw [← hs3]
  have sz : ∀ b ∈ fp, b < s2.heap.objs.size := fun b hb => by
    obtain ⟨o, e, _⟩ := T.obj _ _ st2 b hb
    exact Heap.lt_size e
  have f3 : ∀ b ∈ fp, FpOk X pins (upd H2 D (.lst [])) b ∧ b < s3.heap.objs.size := fun b hb => by
    have hlt := sz b hb
    refine ⟨⟨?_, (f2 b hb).2⟩, by rw [h3, Heap.size_push]; exact Nat.lt_succ_of_lt hlt⟩
    rw [upd_ne (by rw [← hD]; exact Nat.ne_of_lt hlt)]
    exact (f2 b hb).1
  have st3 : tn 0 s3.heap := T.keep _ _ _ st2 fun b _ o e => by rw [h3]; exact Heap.get?_push_of_some _ e
  have I4 := block_start I3 ok hN f3
  have pg := hg s3 (upd H2 D (.lst [])) s3.heap.objs.size (cellsFrom (s3.heap.objs.size + 1) scope.names (cloFrom X.env.cells scope.names [])) fp
  have pt := ht s3 (upd H2 D (.lst [])) s3.heap.objs.size (cellsFrom (s3.heap.objs.size + 1) scope.names (cloFrom X.env.cells scope.names [])) fp
  have pe := he s3 (upd H2 D (.lst [])) s3.heap.objs.size (cellsFrom (s3.heap.objs.size + 1) scope.names (cloFrom X.env.cells scope.names [])) fp
  show codeAny _ _ (.compStart (.ListComp elt [⟨tg, iter, ifs, 0⟩] scope pos) 0 (.ref it) (.ref D) (compEnvC scope (cellsFrom (s3.heap.objs.size + 1) scope.names (cloFrom X.env.cells scope.names [])) s3.heap.objs.size X.env)) (compPost (model X.prog X.w) X.A X.xe use Qf (.ref D) s3.heap.objs.size) { s3 with heap := pushCells (s3.heap.push { cls := .type "dict", data := .dict #[] }) scope.names }
  have nfp : ∀ b ∈ fp, (upd H2 D (.lst [])) b = none := fun b hb => (f3 b hb).1.1
  generalize hce : compEnvC scope (cellsFrom (s3.heap.objs.size + 1) scope.names (cloFrom X.env.cells scope.names [])) s3.heap.objs.size X.env = ce at I4 pg pt pe ⊢
  have cL : ce.locals = s3.heap.objs.size := by subst hce; rfl
  generalize hH3 : upd H2 D (.lst []) = H3 at I3 I4 pg pt pe w0 nfp f3
  generalize hs4 : ({ s3 with heap := pushCells (s3.heap.push { cls := .type "dict", data := .dict #[] }) scope.names } : Shared) = s4 at I4 ⊢
  have st4 : tn 0 s4.heap := T.keep _ _ _ st3 fun b _ o e => by rw [← hs4]; exact pushCells_keeps _ _ _ _ (Heap.get?_push_of_some _ e)
  have stat : ∀ {σ' : St} {H' : Hp} {s' : Shared}, Inv (X.blk s3 H3 scope ce fp) [] σ' H' s' → (∀ b ∈ fp, H' b = none) → ∀ b ∈ fp, FpOk (X.blk s3 H3 scope ce fp) [] H' b := fun {σ' H' s'} I' hn b hb =>
    ⟨hn b hb, (I'.ok.exf b hb).1, I'.ok.exfs b hb, .inl hb, fun x c e => (I'.ok.exf b hb).2 x c e, fun p hp => absurd (show p ∈ ([] : List (Addr × Obj)) ++ [] from hp) (by simp)⟩
  have loop : codeAny (model X.prog X.w) X.A (.compLoop (.ListComp elt [⟨tg, iter, ifs, 0⟩] scope pos) 0 (.ref it) (.ref D) ce) (compPost (model X.prog X.w) X.A X.xe use Qf (.ref D) s3.heap.objs.size) s4 := by
    refine compLoop_any (fun n s' => ∃ i H', Inv (X.blk s3 H3 scope ce fp) [] (wipe σ (own.map (·.2))) H' s' ∧ tn i s'.heap ∧ (∀ b ∈ fp, H' b = none) ∧ W i n H') ?_ m0 ⟨0, H3, I4, st4, nfp, w0⟩
    rintro n s5 ⟨i, H5, I5, st5, n5, w5⟩
    rcases turn i n H5 w5 with ⟨stop, qq⟩ | ⟨go, Nx, hNx, step⟩
    · have td := T.done (X.blk s3 H3 scope ce fp) rfl rfl rfl hc i [] s5 _ H5 (fun _ _ => False) I5 (stat I5 n5) st5 stop
      refine thnF td fun r s6 ⟨hr, I6⟩ => ?_
      subst hr
      -- back in the def's context
      have I7 : Inv X pins σ H5 s6 := I3.call' (ch := fp) I6.os I6.base I6.hok I6.bare fun b hb => ⟨(f3 b hb).1.2.2.2.1, (f3 b hb).1.2.1, (f3 b hb).1.2.2.2.2.1, (f3 b hb).1.2.2.2.2.2⟩
      have nC : H5 s3.heap.objs.size = none := by
        have z : H5 ce.locals = none := I6.free
        rw [cL] at z
        exact z
      obtain ⟨m, hn, _⟩ := I6.loc
      have hn : s6.heap.Ns ce.locals m := hn
      rw [cL] at hn
      exact hRR D s3.heap.objs.size s6 m H5 I7 qq hn (I3.fpOk (Nat.le_refl _) nC)
    · have ti := T.item (X.blk s3 H3 scope ce fp) rfl rfl rfl hc i [] s5 _ H5 (fun _ _ => False) I5 (stat I5 n5) st5 go
      refine thnF ti fun r s6 ⟨u, hr, h6⟩ => ?_
      subst hr
      refine thnF h6 fun _ s7 ⟨x, H7, I7, r7, y7, st7, n7⟩ => ?_
      have I7' := I7.pinned (stat I7 n7) (T.obj _ _ st7)
      refine thnF (pg _ s7 _ H7 x u _ I7' r7 (step x H7 y7)) fun _ s8 ⟨σ8, H8, I8, hw8, q8⟩ => ?_
      refine thnF (pt _ s8 σ8 H8 _ I8 q8) fun b s9 ⟨H9, I9, q9⟩ => ?_
      -- the turn's end
      have fin : ∀ {s' : Shared} {H' : Hp}, Inv (X.blk s3 H3 scope ce fp) ([] ++ pinsAt fp s7.heap) σ8 H' s' → Nx H' → ∃ m, m < n ∧ ∃ i H', Inv (X.blk s3 H3 scope ce fp) [] (wipe σ (own.map (·.2))) H' s' ∧ tn i s'.heap ∧ (∀ b ∈ fp, H' b = none) ∧ W i m H' := fun {s' H'} I' nx => by
        obtain ⟨m', hm, w'⟩ := hNx H' nx
        have pin' : ∀ b ∈ fp, ∀ o, s7.heap.get? b = some o → s'.heap.get? b = some o ∧ H' b = none := fun b hb o e =>
          let z := I'.pin (b, o) (List.mem_append_right _ (List.mem_append_right _ (mem_pinsAt hb e)))
          ⟨z.1, z.2.1⟩
        have hl : (wipe σ (own.map (·.2))).length = σ8.length := by rw [← hw8, wipe_length]
        refine ⟨m', hm, i + 1, H', (I'.unpinned (pins := [])).weak hl (fun j v e => ?_), T.keep _ _ _ st7 fun b hb o e => (pin' b hb o e).1, fun b hb => ?_, w'⟩
        · rw [← hw8] at e
          exact (wipe_some e).1
        · obtain ⟨o, e, _⟩ := T.obj _ _ st7 b hb
          exact (pin' b hb o e).2
      cases b with
      | false =>
        simp only [Bool.false_eq_true, if_false] at q9 ⊢
        exact fin I9 q9
      | true =>
        simp only [if_true] at q9 ⊢
        refine thnF (pe _ s9 σ8 H9 _ I9 q9) fun z s10 ⟨yv, H10, I10, r10, acc, hD10, hz10, nx⟩ => ?_
        exact app_ok (X := X.blk s3 H3 scope ce fp) I10 hD10 hz10 r10 fun s11 I11 => fin I11 nx
  exact codeAny_compStart_list loop (T.self X.A 0 _ _ _ st4 loop)
/-- as a value -/
theorem pe_lc {elt tg iter : Expr} {ifs : List Expr} {scope : Scope} {own : List (Str × Nat)} {pos : Pos} {wi : TI} {g : TG} {tt : TT} {te : TE} (hc : X.calm = true) (hN : X.N.Nodup) (hi : PI X tg iter wi) (ok : BlkOk X.N X.env.scope scope own)
    (hg : ∀ (s : Shared) (H : Hp) (C : Addr) (cl : List (Str × Addr)) (fp : List Addr), PG (X.blk s H scope (compEnvC scope cl C X.env) fp) tg g) (ht : ∀ (s : Shared) (H : Hp) (C : Addr) (cl : List (Str × Addr)) (fp : List Addr), PTs (X.blk s H scope (compEnvC scope cl C X.env) fp) ifs tt)
    (he : ∀ (s : Shared) (H : Hp) (C : Addr) (cl : List (Str × Addr)) (fp : List Addr), PE (X.blk s H scope (compEnvC scope cl C X.env) fp) elt te) (hs : ∀ x, foldedSetIterable iter X.env x = pure x := by intro _; rfl) :
    PE X (.ListComp elt [⟨tg, iter, ifs, 0⟩] scope pos) (tLc wi g tt te (own.map (·.2))) := by
  intro pins s σ H Q I h
  rw [eval_ListComp]
  refine lc_core hc hN I hi ok hg ht he hs h fun D C s' m H' I' q hn f => ⟨m, hn, fun h'' sb => ?_⟩
  obtain ⟨f0, f1, f2, f3, f4, f5⟩ := f
  exact ⟨.ref D, H', I'.turned (t' := s'.toks) (fun b o hb e => (sb.2 b hb).trans e) f0 f1 f3 f4 f5, rfl, q⟩
end

/-! ### the forms one uses -/
/-- over a range: Pv by the turn and the heap (the new list at D within) -/
theorem lc_range {lo : Int} {n : Nat} {g : TG} {tt : TT} {te : TE} {vs : List Nat} {σ : St} {H1 : Hp} {D : Addr} {Qd : Hp → Prop} (Pv : Nat → Hp → Prop) (h0 : Pv 0 (upd H1 D (.lst [])))
    (hs : ∀ i H, i < n → Pv i H → g (.int (lo + i)) (wipe σ vs) H fun σ2 H2 => wipe σ2 vs = wipe σ vs ∧ tt σ2 H2 fun b H3 =>
      if b = true then te σ2 H3 fun y H4 => ∃ acc, H4 D = some (.lst acc) ∧ acc.length < sizeLine ∧ Pv (i + 1) (upd H4 D (.lst (acc ++ [y]))) else Pv (i + 1) H3) (hd : ∀ H, Pv n H → Qd H) :
    ∃ W : Nat → Nat → Hp → Prop, (∃ m, W 0 m (upd H1 D (.lst []))) ∧ ∀ i m H, W i m H →
      ((Itr lo n).stop i H ∧ Qd H) ∨ ((Itr lo n).go i H ∧ ∃ Nx : Hp → Prop, (∀ H', Nx H' → ∃ m', m' < m ∧ W (i + 1) m' H') ∧ ∀ x H', (Itr lo n).yld i H x H' → g x (wipe σ vs) H' fun σ2 H2 => wipe σ2 vs = wipe σ vs ∧ tt σ2 H2 fun b H3 =>
        if b = true then te σ2 H3 fun y H4 => ∃ acc, H4 D = some (.lst acc) ∧ acc.length < sizeLine ∧ Nx (upd H4 D (.lst (acc ++ [y]))) else Nx H3) := by
  refine ⟨fun i m H => m = n - i ∧ i ≤ n ∧ Pv i H, ⟨n, by simp, Nat.zero_le _, h0⟩, ?_⟩
  rintro i m H ⟨rfl, hi, p⟩
  by_cases hlt : i < n
  · refine .inr ⟨hlt, Pv (i + 1), fun H' p' => ⟨n - (i + 1), by omega, rfl, hlt, p'⟩, fun x H' y => ?_⟩
    obtain ⟨e, y⟩ := y
    subst e y
    exact hs i _ hlt p
  · have e : i = n := by omega
    subst e
    exact .inl ⟨Nat.le_refl _, hd H p⟩
/-- over a list that the block leaves as it is -/
theorem lc_list {K : PySem.W.Frag} {a : Addr} {xs : List V} {g : TG} {tt : TT} {te : TE} {vs : List Nat} {σ : St} {H1 : Hp} {D : Addr} {Qd : Hp → Prop} (Pv : Nat → Hp → Prop) (h0 : Pv 0 (upd H1 D (.lst []))) (hl : ∀ i H, i ≤ xs.length → Pv i H → SqL K H a xs)
    (hs : ∀ i x H, xs[i]? = some x → Pv i H → g x (wipe σ vs) H fun σ2 H2 => wipe σ2 vs = wipe σ vs ∧ tt σ2 H2 fun b H3 =>
      if b = true then te σ2 H3 fun y H4 => ∃ acc, H4 D = some (.lst acc) ∧ acc.length < sizeLine ∧ Pv (i + 1) (upd H4 D (.lst (acc ++ [y]))) else Pv (i + 1) H3) (hd : ∀ H, Pv xs.length H → Qd H) :
    ∃ W : Nat → Nat → Hp → Prop, (∃ m, W 0 m (upd H1 D (.lst []))) ∧ ∀ i m H, W i m H →
      ((Itl K a).stop i H ∧ Qd H) ∨ ((Itl K a).go i H ∧ ∃ Nx : Hp → Prop, (∀ H', Nx H' → ∃ m', m' < m ∧ W (i + 1) m' H') ∧ ∀ x H', (Itl K a).yld i H x H' → g x (wipe σ vs) H' fun σ2 H2 => wipe σ2 vs = wipe σ vs ∧ tt σ2 H2 fun b H3 =>
        if b = true then te σ2 H3 fun y H4 => ∃ acc, H4 D = some (.lst acc) ∧ acc.length < sizeLine ∧ Nx (upd H4 D (.lst (acc ++ [y]))) else Nx H3) := by
  refine ⟨fun i m H => m = xs.length - i ∧ i ≤ xs.length ∧ Pv i H, ⟨xs.length, by simp, Nat.zero_le _, h0⟩, ?_⟩
  rintro i m H ⟨rfl, hi, p⟩
  have q := hl i H hi p
  by_cases hlt : i < xs.length
  · refine .inr ⟨⟨xs, xs[i], q, by simp [hlt]⟩, Pv (i + 1), fun H' p' => ⟨xs.length - (i + 1), by omega, rfl, hlt, p'⟩, fun x H' y => ?_⟩
    obtain ⟨e, y⟩ := y
    subst e
    exact hs i x _ (y xs q) p
  · have e : i = xs.length := by omega
    subst e
    exact .inl ⟨⟨xs, q, Nat.le_refl _⟩, hd H p⟩
def blkC (N : List Str) (sc scope : Scope) (own : List (Str × Nat)) : Bool :=
  (match scope.kind with | .function => true | _ => false) && (scope.names.all fun y => decide (scope.names.lookup y.1 = some y.2)) && (own.all fun p => decide (N[p.2]? = some p.1)) &&
    (scope.names.all fun y => match y.2 with
      | .free => (match sc.names.lookup y.1 with | some .cell => true | some .free => true | _ => false)
      | .local => decide (y.1 ∈ own.map (·.1)) || decide (y.1 ∉ N)
      | .cell => decide (y.1 ∈ own.map (·.1)) || decide (y.1 ∉ N)
      | _ => true)
theorem blkOk_by {N : List Str} {sc scope : Scope} {own : List (Str × Nat)} (h : blkC N sc scope own = true) : BlkOk N sc scope own := by
  unfold blkC at h
  simp only [Bool.and_eq_true, List.all_eq_true, decide_eq_true_eq] at h
  obtain ⟨⟨⟨h1, h2⟩, h3⟩, h4⟩ := h
  refine ⟨?_, h2, h3, fun y hy e => ?_, fun y hy e => ?_⟩
  · split at h1
    · assumption
    · cases h1
  · have q := h4 y hy
    simp only [e] at q
    split at q <;> first | exact .inl (by assumption) | exact .inr (by assumption) | cases q
  · have q := h4 y hy
    rcases e with e | e <;> (simp only [e, Bool.or_eq_true, decide_eq_true_eq] at q; exact q)
end L2

namespace L2
open PySem PySem.Spec PyProof.Rows

section
variable {prog : Program} {w : World} {A : Around} {R : Result → Shared → Prop} {s : Shared} {elt t0 i0 t1 i1 : Expr} {ifs0 ifs1 : List Expr} {scope : Scope} {pos : Pos} {it acc : Value} {env : Env}
end

section
variable {X : Cx}
end
end L2

namespace L2
open PySem PySem.Spec PyProof.Rows

/-! ### lists of pairs as tables -/
section
variable {κ : Type} [DecidableEq κ]
end


/-! ### a tracked dict, its keys ints and texts or tuples of these -/
section
variable {P : Program} {w : World} {H : Hp} {h : Heap} {a : Addr}
end

section
variable {X : Cx} {pins : List (Addr × Obj)} {σ : St} {H : Hp} {s : Shared} {a : Addr} {y v : V} {u r : Value} {o : Option V} {A : Around} {E : Value → Shared → Prop}

end

section
variable {X : Cx} {pins : List (Addr × Obj)} {σ : St} {H : Hp} {s : Shared} {a : Addr} {kvs : List (Key × V)} {k : Key} {u : Value} {A : Around} {E : Value → Shared → Prop}
end


/-! ### readings and rules -/
section
variable {X : Cx} {o i e value : Expr} {pos pos' tpos : Pos} {td ty tv : TE}
end


/-! ### displays -/
section
variable {X : Cx} {pos : Pos}
end

/-! ### methods -/
section
variable {X : Cx} {pins : List (Addr × Obj)} {σ : St} {H : Hp} {s : Shared} {a : Addr} {y d : V} {u r : Value} {o : Option V} {A : Around} {E : Value → Shared → Prop}
end

section
variable {X : Cx} {o e f : Expr} {apos cpos : Pos} {td ty tx : TE}
end

/-! ### dict(d): a copy -/
section
variable {X : Cx} {pins : List (Addr × Obj)} {σ : St} {H : Hp} {s : Shared} {a : Addr} {kvs : List (Key × V)} {A : Around} {E : Value → Shared → Prop}
end


section
variable {X : Cx} {pins : List (Addr × Obj)} {σ : St} {H : Hp} {s : Shared} {a : Addr} {y : V} {u : Value} {A : Around} {E : Value → Shared → Prop}
end
end L2

namespace L2
open PySem PySem.Spec PyProof.Rows

section
variable {prog : Program} {w : World} {A : Around} {E : Value → Shared → Prop}
end

section
variable {X : Cx}
end
end L2

namespace L2
open PySem PySem.Spec PyProof.Rows

section
variable {X : Cx} {pins : List (Addr × Obj)} {σ : St} {H : Hp} {s : Shared} {h' : Heap}
/-! ### locking a thing while a statement runs -/
end
section
variable {X : Cx}
/-! ### one iterator just laid -/
theorem pi_one {tg : Expr} {pins : List (Addr × Obj)} {σ : St} {H : Hp} {s : Shared} {R : It → Hp → Prop} {J : It} {tn : Nat → Heap → Prop} {tk : Nat} (I : Inv X pins σ H s) (o : Obj)
    (T : Turn X.prog X.w X.K tg J [s.heap.objs.size] s.heap.objs.size tn) (st : tn 0 (s.heap.push o)) (q : R J H) : PIE X pins σ tg R (.ref s.heap.objs.size) { s with heap := s.heap.push o, toks := tk } := by
  refine ⟨s.heap.objs.size, [s.heap.objs.size], tn, J, H, rfl, I.kept fun b ob e => Heap.get?_push_of_some _ e, T, st, fun b hb => ?_, q⟩
  have e : b = s.heap.objs.size := by simpa using hb
  subst e
  exact I.fpOk (Nat.le_refl _) (I.hok.fresh (Nat.le_refl _))
end

/-! ### range with a step -/
section
variable {X : Cx} {tg : Expr}
end
/-! ### reversed(list) -/
section
variable {X : Cx} {tg : Expr}
end

/-! ### a str -/
def Its (x : Str) : It := ⟨fun i _ => i < x.cps.size, fun i H v H' => H' = H ∧ ∃ c, x.cps[i]? = some c ∧ v = .str ⟨#[c]⟩, fun i _ => x.cps.size ≤ i⟩
theorem turn_str {P : Program} {w : World} {K : PySem.W.Frag} {tg : Expr} (it : Addr) (x : Str) (t : Tok) (ty : String) (hty : ty = "str_ascii_iterator" ∨ ty = "str_iterator") :
    Turn P w K tg (Its x) [it] it (fun i h => h.IsStrIter it ty x t i) where
  mem := by simp
  obj := fun i h st b hb => by
    have e : b = it := by simpa using hb
    subst e
    obtain ⟨o, e, c, d⟩ := st
    exact ⟨o, e, fun v z => by rw [d] at z; cases z⟩
  keep := fun i h h' st k => let ⟨o, ho, r⟩ := st; ⟨o, k it (by simp) o ho, r⟩
  item := by
    intro X hP hw hK hc i pins s σ H E I hf st hg
    subst hP hw hK
    obtain ⟨f0, f1, f2, f3, f4, f5⟩ := hf it (by simp)
    have W : Walks X.prog X.w X.A it [it] [it] x.cps.size (SignAt x) (fun i h => h.IsStrIter it ty x t i) := by
      rcases hty with e | e
      · rw [e]; exact Walks.strAscii (I.ok.hd hc) it x t
      · rw [e]; exact Walks.strWide (I.ok.hd hc) it x t
    have hno : ["enumerate", "zip", "dict_itemiterator", "dict_reverseitemiterator", "odict_iterator", "itertools.zip_longest", "itertools.pairwise"].contains ty = false := by
      rcases hty with e | e
      · rw [e]; decide
      · rw [e]; decide
    refine W.item i s _ _ hg st fun v h' tk hv st' kk => ?_
    obtain ⟨c, u, hcx, rfl⟩ := hv
    have I1 : Inv X pins σ H { s with heap := h', toks := tk } := I.turned (fun b o hb e => kk b o (by simpa using hb) e) f0 f1 f3 f4 f5
    obtain ⟨oi, e, cc, dd⟩ := id st'
    exact ⟨_, rfl, go_of (s := { s with heap := h', toks := tk }) e cc dd hno ⟨.str ⟨#[c]⟩, H, I1, ⟨u, rfl⟩, ⟨rfl, c, hcx, rfl⟩, st', fun b hb => (hf b hb).1⟩⟩
  done := by
    intro X hP hw hK hc i pins s σ H E I hf st hg
    subst hP hw hK
    obtain ⟨f0, f1, f2, f3, f4, f5⟩ := hf it (by simp)
    have hx : x.cps[i]? = none := Array.getElem?_eq_none hg
    rcases hty with e | e
    · rw [e] at st
      exact wpAny_pyNext_ascii_end (I.ok.hd hc) st hx fun h' eb => ⟨rfl, I.turned (t' := s.toks) (fun b o hb e => eb b o hb e) f0 f1 f3 f4 f5⟩
    · rw [e] at st
      exact wpAny_pyNext_wide_end (I.ok.hd hc) st hx fun h' eb => ⟨rfl, I.turned (t' := s.toks) (fun b o hb e => eb b o hb e) f0 f1 f3 f4 f5⟩
  self := fun A i s Q E st h => by
    rcases hty with e | e
    · rw [e] at st; exact wpAny_pyIter_striter_ascii st h
    · rw [e] at st; exact wpAny_pyIter_striter_wide st h
def iStr (te : TE) : TI := fun σ H R => te σ H fun v H1 => ∃ x, v = .str x ∧ R (Its x) H1
theorem pi_str {X : Cx} {tg e : Expr} {te : TE} (he : PE X e te) : PI X tg e (iStr te) := by
  intro pins s σ H R I h
  refine thn (he pins s σ H _ I h) fun v s1 ⟨y, H1, I1, r1, x, ex, q⟩ => ?_
  subst ex
  obtain ⟨t, rfl⟩ := r1
  cases ha : x.cps.all (· < 128)
  · exact wpAny_pyIter_wide ha (pi_one (tk := s1.toks) I1 _ (turn_str _ x t "str_iterator" (.inr rfl)) ⟨_, Heap.get?_push_size _ rfl, rfl, rfl⟩ q)
  · exact wpAny_pyIter_ascii ha (pi_one (tk := s1.toks) I1 _ (turn_str _ x t "str_ascii_iterator" (.inl rfl)) ⟨_, Heap.get?_push_size _ rfl, rfl, rfl⟩ q)

/-! ### a dict's keys: any dict's entries -/
section
variable {prog : Program} {w : World} {A : Around} {E : Value → Shared → Prop} {s : Shared}
end

/-! ### a locked dict -/
section
variable {X : Cx} {pins : List (Addr × Obj)} {σ : St} {H : Hp} {s : Shared} {d : Addr} {o : Obj}
end

section
variable {P : Program} {w : World} {K : PySem.W.Frag} {tg : Expr} {d : Addr} {o : Obj} {es : Array DictEntry} {ep : Nat}
end

/-! ### for k in d, d.keys(), d.values(), d.items() -/
section
variable {X : Cx} {tg e : Expr} {td : TE} {apos cpos : Pos}
end

/-! ### enumerate(list) -/
/-! ### zip(list, list) -/
end L2

section 
namespace Bits
open PySem PyProof.Rows

end Bits
end 

section 
namespace TL
open PySem PySem.Builtin PySem.Builtin.Str PySem.StrLaws

abbrev tl (x : Str) : List Nat := x.cps.toList
theorem tl_append (x y : Str) : tl (x ++ y) = tl x ++ tl y := by
  show (x ++ y).cps.toList = _
  rw [Str.cps_append, Array.toList_append]
/-! ### the list functions -/
/-! ### the model's split and partition are these -/
/-! ### computing spl and par -/
/-- joined lists -/
def joinL (S : List Nat) : List (List Nat) → List Nat
  | [] => []
  | [p] => p
  | p :: q :: r => p ++ (S ++ joinL S (q :: r))
theorem tl_join (y : Str) : ∀ parts : List Str, tl (Str.join y parts) = joinL (tl y) (parts.map tl)
  | [] => rfl
  | [_] => rfl
  | x :: z :: r => by
    show tl (x ++ y ++ Str.join y (z :: r)) = tl x ++ (tl y ++ joinL (tl y) ((z :: r).map tl))
    rw [tl_append, tl_append, tl_join y (z :: r), List.append_assoc]
theorem join_eq (y : Str) (parts : List Str) : Txt.join y parts = Str.join y parts := glued_eq_join y parts
/-! ### digits -/
/-! ### words: x.split() -/
end TL
end 

namespace L2
open PySem PySem.Spec PyProof.Rows

theorem notLong {n : Nat} (h : n ≤ 16777216) : Builtin.Str.tooLong n = false := by
  have e : (2 : Nat) ^ 24 = 16777216 := by decide
  unfold Builtin.Str.tooLong sizeLine
  exact decide_eq_false (by omega)

theorem strs_of_vals : ∀ {ys : List Str} {us : List Value}, Vals (ys.map V.str) us → StrsAre us ys
  | [], _, .nil => .nil
  | y :: ys, _, .cons r t => by
    obtain ⟨k, rfl⟩ := r
    exact .cons y k (strs_of_vals t)

section
variable {X : Cx} {pins : List (Addr × Obj)} {σ : St} {H : Hp} {s : Shared} {Q : VK}
end

section
variable {X : Cx}

/-- sep.join(a list | a tuple of texts) -/
theorem mt_join : MtR X "str.join" (fun x xs H Q => ∃ a p, ∃ ys : List Str, x = .str a ∧ xs = [.ref p] ∧ (SqL X.K H p (ys.map V.str) ∨ SqT X.K H p (ys.map V.str)) ∧
    (ys.map (·.length)).sum + ys.length * a.length ≤ 16777216 ∧ Q (.str (Txt.join a ys)) H) := by
  intro pins s σ H x xs v us Q I rx rs h
  obtain ⟨a, p, ys, rfl, rfl, hp, hz, h⟩ := h
  obtain ⟨t, rfl⟩ := rx
  cases rs with
  | cons r1 rs =>
    cases rs
    cases r1
    rcases hp with hp | hp
    · obtain ⟨its, r, ⟨o, n, ho, hc, _, hd⟩, _⟩ := I.list hp
      exact PyProof.Rows.join_list (items := its.toArray) ⟨o, ho, hc, n, hd⟩ (by rw [List.toList_toArray]; exact strs_of_vals r) hz fun t' k => ⟨.str _, H, I.tok k, ⟨t', rfl⟩, h⟩
    · obtain ⟨its, r, ht, _⟩ := I.tuple hp
      exact PyProof.Rows.join_tuple (items := its.toArray) ht (by rw [List.toList_toArray]; exact strs_of_vals r) hz fun t' k => ⟨.str _, H, I.tok k, ⟨t', rfl⟩, h⟩

/-! ### of a text alone -/
theorem mt0 {id : String} {C : Str → Prop} {g : Str → V} (rule : ∀ (a : Str) (t : Tok) (s : Shared) (Q : Value → Shared → Prop), C a → (∀ (u : Value) (k : Nat), RelV (g a) u → Q u { s with toks := k }) →
    wpAny (model X.prog X.w) X.A (call (.builtin id) [.str a t]) Q X.xe s) : MtR X id (fun x xs H Q => ∃ a, x = .str a ∧ xs = [] ∧ C a ∧ Q (g a) H) := by
  intro pins s σ H x xs v us Q I rx rs h
  obtain ⟨a, rfl, rfl, hc, h⟩ := h
  obtain ⟨t, rfl⟩ := rx
  cases rs
  exact rule a t s _ hc fun u k r => ⟨g a, H, I.tok k, r, h⟩
theorem mt_upper : MtR X "str.upper" (fun x xs H Q => ∃ a, x = .str a ∧ xs = [] ∧ a.length ≤ 5592405 ∧ Q (.str (Txt.upper a)) H) :=
  mt0 (C := fun a => a.length ≤ 5592405) (g := fun a => .str (Txt.upper a)) fun a _ s _ hc h =>
    PySem.SC.upper (notLong (by have h1 : a.length ≤ 5592405 := hc; have := PyProof.Rows.len_upper a; omega)) (h _ (s.toks + 1) ⟨_, rfl⟩)
/-! ### of a text and a text -/
end

section
variable {X : Cx} {o e : Expr} {to te : TE}
def tM1 (r : V → List V → Hp → VK → Prop) (to te : TE) : TE := fun σ H Q => to σ H fun x H1 => (∃ a, x = .str a) ∧ te σ H1 fun y H2 => r x [y] H2 Q
theorem pe_m1 {id : String} {name : Str} {apos pos : Pos} {r : V → List V → Hp → VK → Prop} (slot : Slot "str" name id) (ty : typeOf (.builtin id) = pure (.type "method_descriptor")) (rule : MtR X id r) (ho : PE X o to) (he : PE X e te)
    (hs : starEach [e] X.env = [(false, eval e X.env)] := by rfl) (hbase : attributeBase o name X.env (eval o X.env) = eval o X.env := by rfl) (hline : (apos.endLine == pos.line) = true := by rfl) :
    PE X (.Call (.Attribute o name apos) [e] [] pos) (tM1 r to te) := by
  intro pins s σ H Q I h
  refine PySem.Call_method1 hbase hs hline (thn (ho pins s σ H _ I h) fun v s1 ⟨x, H1, I1, r1, q1⟩ => ?_)
  obtain ⟨⟨a, rfl⟩, q1⟩ := q1
  obtain ⟨t, rfl⟩ := _root_.id r1
  refine ⟨"str", _, F.plainAttrs_str, slot, ty, typeIs_str _ _ _, (fun _ e => nomatch e), Calls.callWith_builtin rfl (Calls.evalArgs_plain (Calls.spliced_cons ?_))⟩
  exact thn (he pins s1 σ H1 _ I1 q1) fun u s2 ⟨y, H2, I2, r2, q2⟩ => Calls.spliced_nil (rule pins s2 σ H2 _ [y] _ [u] Q I2 r1 (.cons r2 .nil) q2)

theorem pe_join {apos pos : Pos} (ho : PE X o to) (he : PE X e te) (hs : starEach [e] X.env = [(false, eval e X.env)] := by rfl) (hbase : attributeBase o "join" X.env (eval o X.env) = eval o X.env := by rfl) (hline : (apos.endLine == pos.line) = true := by rfl) :
    PE X (.Call (.Attribute o "join" apos) [e] [] pos) (tM1 (fun x xs H Q => ∃ a p, ∃ ys : List Str, x = .str a ∧ xs = [.ref p] ∧ (SqL X.K H p (ys.map V.str) ∨ SqT X.K H p (ys.map V.str)) ∧
      (ys.map (·.length)).sum + ys.length * a.length ≤ 16777216 ∧ Q (.str (Txt.join a ys)) H) to te) :=
  pe_m1 F.slot_str_join F.type_str_join mt_join ho he hs hbase hline
end
end L2

namespace L2
open PySem PySem.Spec PyProof.Rows

section
variable {X : Cx}
/-- one sign in a text -/
theorem op_in_sign : OpR X (compareOp .In) (fun x y H Q => ∃ (c : Nat) (z : Str), x = .str ⟨#[c]⟩ ∧ y = .str z ∧ Q (.bl (decide (c ∈ z.cps.toList))) H) := by
  intro pins s σ H x y v u Q I rx ry h
  obtain ⟨c, z, rfl, rfl, q⟩ := h
  obtain ⟨t, rfl⟩ := rx
  obtain ⟨t', rfl⟩ := ry
  exact PyProof.Rows.in_str (fin_bl I q (PySem.StrLaws.found_one z c).symm)
theorem op_notIn_sign : OpR X (compareOp .NotIn) (fun x y H Q => ∃ (c : Nat) (z : Str), x = .str ⟨#[c]⟩ ∧ y = .str z ∧ Q (.bl (!decide (c ∈ z.cps.toList))) H) := by
  intro pins s σ H x y v u Q I rx ry h
  obtain ⟨c, z, rfl, rfl, q⟩ := h
  obtain ⟨t, rfl⟩ := rx
  obtain ⟨t', rfl⟩ := ry
  exact PyProof.Rows.notIn_str (fin_bl I q (congrArg Bool.not (PySem.StrLaws.found_one z c).symm))
end

/-! ### slices of a text -/
theorem IsPart.raw {v : Value} {o : Option Int} (p : IsPart v o) : ∃ l : Option (Int × Tok), v = partValue l ∧ l.map (·.1) = o := by
  cases p with
  | none => exact ⟨none, rfl, rfl⟩
  | int i t => exact ⟨some (i, t), rfl, rfl⟩

/-- a part, clipped, as the text's slice reckons it -/
def clipS (n d : Nat) : Option Int → Int
  | none => (d : Int)
  | some i => max 0 (min (if i < 0 then i + (n : Int) else i) (n : Int))
theorem clipS_eq (n d : Nat) (o : Option Int) : clipS n d o = ((HT.sIx n d o : Nat) : Int) := by
  cases o with
  | none => rfl
  | some v =>
    show max (0 : Int) (min (if v < 0 then v + (n : Int) else v) (n : Int)) = (((if v < 0 then (v + (n : Int)).toNat else min v.toNat n) : Nat) : Int)
    by_cases hv : v < 0
    · simp only [if_pos hv]
      omega
    · simp only [if_neg hv]
      omega
theorem sidx_clip (a b : Option Int) (n : Nat) : Builtin.Str.strSliceIndices a b 1 n = sliceRange (clipS n 0 a) (clipS n n b) 1 := by
  have h1 : ((1 : Int) > 0) = True := by simp
  cases a <;> cases b <;> first
    | rfl
    | (simp only [Builtin.Str.strSliceIndices, clipS, h1, if_true]; rfl)
    | simp [Builtin.Str.strSliceIndices, clipS]
theorem sidx (a b : Option Int) (n : Nat) : Builtin.Str.strSliceIndices a b 1 n = (List.range (HT.sIx n n b - HT.sIx n 0 a)).map (fun k => HT.sIx n 0 a + k) := by
  rw [sidx_clip, clipS_eq, clipS_eq]
  generalize HT.sIx n 0 a = p
  generalize HT.sIx n n b = q
  simp only [sliceRange, show ((1 : Int) > 0) = True from by simp, if_true]
  by_cases hlt : (p : Int) < q
  · have e3 : (((q : Int) - p + 1 - 1) / 1).toNat = q - p := by first | omega | (simp; done) | (simp; omega)
    simp only [hlt, if_true, e3]
    refine List.map_congr_left fun k _ => ?_
    omega
  · have : q - p = 0 := by omega
    simp [hlt, this]

/-- z[lo:hi] -/
def cutS (z : Str) (lo hi : Option Int) : Str :=
  ⟨((z.cps.toList.drop (HT.sIx z.length 0 lo)).take (HT.sIx z.length z.length hi - HT.sIx z.length 0 lo)).toArray⟩
theorem sliceText_cut (z : Str) (lo hi : Option Int) : PySem.StrLaws.sliceText z lo hi = cutS z lo hi := by
  have h1 : HT.sIx z.length 0 lo ≤ z.length := HT.sIx_le _ _ (Nat.zero_le _) _
  have h2 : HT.sIx z.length z.length hi ≤ z.length := HT.sIx_le _ _ (Nat.le_refl _) _
  have hp : HT.sIx z.length 0 lo ≤ max (HT.sIx z.length 0 lo) (HT.sIx z.length z.length hi) := Nat.le_max_left _ _
  have hq : max (HT.sIx z.length 0 lo) (HT.sIx z.length z.length hi) ≤ z.length := Nat.max_le.mpr ⟨h1, h2⟩
  have hd : max (HT.sIx z.length 0 lo) (HT.sIx z.length z.length hi) - HT.sIx z.length 0 lo = HT.sIx z.length z.length hi - HT.sIx z.length 0 lo := by omega
  have e : Builtin.Str.strSliceIndices lo hi 1 z.length =
      Builtin.Str.strSliceIndices (some ((HT.sIx z.length 0 lo : Nat) : Int)) (some ((max (HT.sIx z.length 0 lo) (HT.sIx z.length z.length hi) : Nat) : Int)) 1 z.length := by
    rw [PySem.StrLaws.strSliceIndices_plain hp hq, hd, sidx]
  have e2 : PySem.StrLaws.sliceText z lo hi =
      PySem.StrLaws.sliceText z (some ((HT.sIx z.length 0 lo : Nat) : Int)) (some ((max (HT.sIx z.length 0 lo) (HT.sIx z.length z.length hi) : Nat) : Int)) := by
    unfold PySem.StrLaws.sliceText
    rw [e]
  rw [e2, PySem.StrLaws.sliceText_nat z hp hq, hd]
  rfl
theorem cutS_length (z : Str) (lo hi : Option Int) : (cutS z lo hi).length ≤ z.length := by
  show (((z.cps.toList.drop (HT.sIx z.length 0 lo)).take (HT.sIx z.length z.length hi - HT.sIx z.length 0 lo)).toArray).size ≤ z.cps.size
  rw [List.size_toArray, List.length_take, List.length_drop, Array.length_toList]
  omega
def rSlS : V → Option Int → Option Int → Hp → VK → Prop := fun x lo hi H Q => ∃ z, x = .str z ∧ z.length ≤ sizeLine ∧ Q (.str (cutS z lo hi)) H
theorem sl_str {X : Cx} : SlR X rSlS := by
  intro pins s σ H x v vl vu lo hi sl Q I rx hs pl pu h
  obtain ⟨z, rfl, hz, q⟩ := h
  obtain ⟨t, rfl⟩ := rx
  obtain ⟨os, hos, hcs, hds⟩ := hs
  obtain ⟨l, rfl, rfl⟩ := IsPart.raw pl
  obtain ⟨u, rfl, rfl⟩ := IsPart.raw pu
  refine ⟨"str", _, F.slot_str_getitem.lookup, typeIs_str _ _ _, ?_⟩
  refine wpAny_getItem_str_slice (l := l) (u := u) (st := none) ⟨os, hos, hcs, hds⟩ rfl ?_
  have hl : (PySem.StrLaws.sliceText z (l.map (·.1)) (u.map (·.1))).length ≤ sizeLine := by
    rw [sliceText_cut]
    exact Nat.le_trans (cutS_length z _ _) hz
  rw [← sliceText_cut] at q
  unfold PySem.StrLaws.sliceText at q hl
  show Made.post (if ((1 : Int) == 1 && (Builtin.Str.strSliceIndices (l.map (·.1)) (u.map (·.1)) 1 z.length).length == z.length) = true then Made.val (.str z t)
    else Made.str ⟨((Builtin.Str.strSliceIndices (l.map (·.1)) (u.map (·.1)) 1 z.length).filterMap (z.cps[·]?)).toArray⟩) (EP X pins σ Q) s
  by_cases c : ((1 : Int) == 1 && (Builtin.Str.strSliceIndices (l.map (·.1)) (u.map (·.1)) 1 z.length).length == z.length) = true
  · rw [if_pos c] at q ⊢
    exact ⟨.str z, H, I, ⟨t, rfl⟩, q⟩
  · rw [if_neg c] at q hl ⊢
    exact ⟨hl, .str _, H, I.tok _, ⟨_, rfl⟩, q⟩
end L2

namespace Att
open PySem PySem.W PySem.Calls PyProof.Rows

/-! ### the script -/
theorem ints_of_wellAll {P : Params} {h : Heap} : ∀ (ns : List Int) (vs : List Value), WellAll P h vs (ns.map WData.int) → IntsAre vs ns := by
  intro ns
  induction ns with
  | nil =>
    intro vs w
    rw [List.map_nil] at w
    cases w
    exact .nil
  | cons n ns ih =>
    intro vs w
    rw [List.map_cons] at w
    cases w with
    | cons a b =>
      cases a
      exact .cons _ _ (ih _ b)

theorem script_of {l : OpenLaw} {n : Nat} (hn : l.most = some n) {P : Params} {h : Heap} {args : List WData} {vals : List Value}
    (hpre : l.row.toRowW.claim.pre args = true) (hwl : WellAll P h vals args) :
    ∃ a vs ns, vals = [Value.ref a] ∧ args = [WData.list (ns.map WData.int)] ∧ h.get? a = some { cls := .type "list", data := .seq vs.toArray } ∧ IntsAre vs ns ∧ ns.length ≤ n := by
  have hsh : WShape.hasAll [] args [.list .int] = true := (pre_splitW hpre).1
  have hc : l.pre.holds [] { args := args } = true := (pre_splitW hpre).2
  obtain ⟨d, r, rfl, h1, h2⟩ := hasAllW_cons hsh
  obtain rfl := hasAllW_nil h2
  obtain ⟨xs, rfl, h3⟩ := hasW_list h1
  obtain ⟨ns, rfl⟩ := items_int h3
  have hlen : ns.length ≤ n := by
    unfold OpenLaw.pre at hc
    have h4 : (WTm.not (.lt (.lit (.int (n : Int))) (.len (.arg 0)))).holds [] { args := [.list (ns.map .int)] } = true := by
      have h4 := (holds_andW hc).1
      rw [hn] at h4
      exact h4
    have h5 := condW_of h4 (w_not (w_lt w_lit (w_len_list (w_arg rfl))))
    rw [List.length_map] at h5
    refine Nat.le_of_not_lt fun q => ?_
    have q' : (n : Int) < ((ns.length : Nat) : Int) := by omega
    first
      | (rw [decide_eq_true q'] at h5; exact absurd h5 (by decide))
      | (simp at h5; omega)
  cases hwl with
  | cons w1 w2 =>
    cases w2
    cases w1 with
    | list ho hall => exact ⟨_, _, ns, rfl, rfl, ho, ints_of_wellAll ns _ hall, hlen⟩

theorem post_true (l : OpenLaw) (args : List WData) : l.row.toRowW.claim.post args (.bool true) args = true :=
  postW_of (r := l.row.toRowW) (X := (true == true))
    (show WShape.has [] (.bool true) .bool = true by first | rfl | decide | simp [WShape.has, WShape.arms, WShape.armsAll])
    (show (WTm.eq .res (.lit (.bool true))).value [] { args := args, res := some (.bool true), after := args } = some (.bool (true == true)) from w_eq_bool (w_res rfl) w_lit) rfl

/-! ### the attachment: holds_open's last premise (the goal 'hc' behind k_head) from a wpAny of the law's body -/
/-- the same from a codeAny of the CALL (for a layer whose function contracts speak of calls) -/
theorem attach_call {l : OpenLaw} {n : Nat} {q : Program} {loose : List Str} {XP : (Str → Option Value) → Heap → Prop} {YP : World → Heap → Prop} {d : DefRec}
    (hn : l.most = some n) (hdf : d.params.defaults = [])
    (call : ∀ (w : World) (s₀ s₁ : Shared) (mg mb : Str → Option Value) (fa : Addr) (o : Obj) (pm cd doc : Value) (a : Addr) (vs : List Value) (ns : List Int),
      Ground q loose [] XP w s₀ mg mb s₁.heap → YP w s₁.heap →
      s₁.heap.get? fa = some o → o.data = .func (docDef d.name d.params d.body d.scope pm cd doc) → s₁.heap.CodeRec cd d.name → mg d.name = some (.ref fa) →
      s₁.heap.get? a = some { cls := .type "list", data := .seq vs.toArray } → IntsAre vs ns → ns.length ≤ n → s₁.gens = #[] →
      codeAny (model l.prog w) callerA (.call (.ref fa) ⟨[.ref a], []⟩) (fun r s' => r = .ok (.ret (.bool true)) ∧ OldK s₁.heap s'.heap ∧ s'.os = s₁.os ∧ AllBare s'.gens) s₁) :
    WalkO q loose XP YP l.row.toRowW d [] (fun f vs => PySem.call f vs) := by
  intro w s₀ s₁ mg mb G Y fa o pm cd doc dV kV ho hd hcd hD hmg hg args vals as hpre hlay hrd hwl hlo
  obtain rfl : dV = .none := Dflts.none hD hdf
  obtain rfl : kV = .none := Dflts.noKw hD
  obtain ⟨a, vs, ns, rfl, rfl, hobj, hints, hlen⟩ := script_of hn hpre hwl
  refine enter_call (codeAny_mono (call w s₀ s₁ mg mb fa o pm cd doc a vs ns G Y ho (fd_plain hd) hcd hmg hobj hints hlen hg) fun r s' hq => ?_)
  obtain ⟨rfl, h2, h3, h4⟩ := hq
  exact ⟨.inl ⟨.bool true, .bool true, [], rfl, fun _ => rfl, .bool true, post_true l _, fun _ => ⟨List.Pairwise.nil, fun _ hm => (nomatch hm)⟩⟩, h2, h3, h4⟩

/-! ### rules over ANY heap (no ledger) from facts about the written part K: the library's own take a ledger (News) for what they write -/
section
variable {prog : Program} {w : World} {A : Around} {E : Value → Shared → Prop} {s : Shared} {K : Frag}

/-! the whole heap as the ledger: makes every rule that writes through a ledger a rule over any heap -/
end
end Att

namespace L2
open PySem PySem.Spec PyProof.Rows

theorem vals_ints : ∀ {vs : List Value} {ns : List Int}, IntsAre vs ns → Vals (ns.map V.int) vs
  | _, _, .nil => .nil
  | _, _, .cons n t h => .cons ⟨t, rfl⟩ (vals_ints h)

end L2

namespace L2
open PySem PySem.Spec PyProof.Rows

end L2

/- THE LAST THEOREM (shape; LID, My.* are yours):
   My.Adr: a structure of the addresses that your layer names (classes, functions); My.Txt K t: a structure (Prop) of the equations over K;
   My.txt_mk : {K} {implicit addresses ..} (e1 : nsIn K mainGlobals "law" = some (some (.ref f))) (e2 : K.lookup f = some ⟨oc, od, .func (fnOf "law" "law" params body scope dV kV doc pm an cdv ct), sl⟩) (e3 : codeIn K cdv "law" = true) .. : ∃ t, My.Txt K t

(the tactic k_is has no namespace: write k_is) -/

/-! SHORT WORDS over the layer: a def of the text, its body, what a loop and a test want. -/
namespace L2
open PySem PySem.Spec PyProof.Rows

/-! ### the text by places -/
def defArgs (s : Stmt) : Arguments := match s with
  | .FunctionDef _ a _ _ _ _ _ _ _ _ => a
  | _ => { posonlyargs := [], args := [], vararg := none, kwonlyargs := [], kw_defaults := [], kwarg := none, defaults := [] }
def defBody (s : Stmt) : List Stmt := match s with
  | .FunctionDef _ _ b _ _ _ _ _ _ _ => b
  | _ => []
def defScope (s : Stmt) : Scope := match s with
  | .FunctionDef _ _ _ _ _ _ sc _ _ _ => sc
  | _ => { kind := .function, names := [], isGenerator := false, isCoroutine := false }

/-! ### no exception leaves a def -/
/-! ### a def (or method) of the text as it stands behind the top -/
structure Fun (K : PySem.W.Frag) (x qual : Str) (st : Stmt) (f : Addr) (fd : FuncData) : Prop where
  ex : ∃ (oc : Value) (od : Option Addr) (kV doc pm : Value) (an : Option Addr) (cdv ct : Value) (osl : Array (Option Value)),
    fd = PySem.W.fnOf x qual (defArgs st) (defBody st) (defScope st) .none kV doc pm an cdv ct ∧ K.lookup f = some ⟨oc, od, .func fd, osl⟩ ∧ PySem.W.codeIn K cdv qual = true
  kp : PySem.W.keepIn K (.ref f) = true
section
variable {P : Program} {w : World} {K : PySem.W.Frag} {mg : Str → Option Value} {base : Heap}
/-- how its arguments bind (no defaults): h is «fun _ _ _ _ _ _ us hl => match us, hl with | [_, _], _ => rfl», one _ a parameter -/
theorem Fun.binds {x qual : Str} {st : Stmt} {f : Addr} {fd : FuncData} {ps : List Str} (F : Fun K x qual st f fd)
    (h : ∀ (kV doc pm : Value) (an : Option Addr) (cdv ct : Value) (us : List Value), us.length = ps.length → bindArgs (PySem.W.fnOf x qual (defArgs st) (defBody st) (defScope st) .none kV doc pm an cdv ct) ⟨us, []⟩ = pure (ps.zip us)) : Binds K fd ps [] := by
  obtain ⟨oc, od, kV, doc, pm, an, cdv, ct, osl, rfl, lk, hcd⟩ := F.ex
  exact .all (h kV doc pm an cdv ct)
theorem fun_mk {x qual : Str} {st : Stmt} {f : Addr} {oc : Value} {od an : Option Addr} {osl : Array (Option Value)} {kV doc pm cdv ct : Value} (l : K.lookup f = some ⟨oc, od, .func (PySem.W.fnOf x qual (defArgs st) (defBody st) (defScope st) .none kV doc pm an cdv ct), osl⟩)
    (c : PySem.W.codeIn K cdv qual = true) (k : PySem.W.keepIn K (.ref f) = true) : Fun K x qual st f (PySem.W.fnOf x qual (defArgs st) (defBody st) (defScope st) .none kV doc pm an cdv ct) := ⟨⟨oc, od, kV, doc, pm, an, cdv, ct, osl, rfl, l, c⟩, k⟩
end
/-! ### expressions in short: the name that stands in the i-th slot -/
section
variable {X : Cx}
theorem pv (i : Nat) {x : Str} {pos : Pos} (hN : X.N[i]? = some x := by rfl) (hv : Vis X.env.scope x := by first | exact Or.inl rfl | exact Or.inr (Or.inl rfl) | exact Or.inr (Or.inr rfl)) (hd : (x == ("__debug__" : Str)) = false := by decide)
    (hcd : (x == ("__classdict__" : Str)) = false := by decide) : PE X (.Name x pos) (tVar i) := pe_var hN hv hd hcd
end

/-! ### tests -/
theorem iteF {A B : Prop} (h : B) : if false = true then A else B := by
  rw [if_neg Bool.false_ne_true]
  exact h
theorem iteT {A B : Prop} (h : A) : if true = true then A else B := by
  rw [if_pos rfl]
  exact h
theorem ite2 {c A B : Prop} [Decidable c] (h1 : c → A) (h2 : ¬ c → B) : if c then A else B := by
  by_cases h : c
  · rw [if_pos h]
    exact h1 h
  · rw [if_neg h]
    exact h2 h
/-! ### heaps -/
/-- all that was tracked is as it was -/
def Same (H H' : Hp) : Prop := ∀ b o, H b = some o → H' b = some o
theorem Same.refl (H : Hp) : Same H H := fun _ _ h => h
theorem Same.trans {H H1 H2 : Hp} (a : Same H H1) (b : Same H1 H2) : Same H H2 := fun c o h => b c o (a c o h)
theorem Same.seq {K : PySem.W.Frag} {H H' : Hp} {a : Addr} {xs : List V} (e : Same H H') (h : SqL K H a xs) : SqL K H' a xs := by
  rcases h with (h | ⟨o, h⟩) | h
  · exact .inl (.inl (e _ _ h))
  · exact .inl (.inr ⟨o, e _ _ h⟩)
  · exact .inr h

/-! ### a dict's pairs: keys that differ -/
section
variable {κ : Type} [DecidableEq κ]
end
/-! ### lists -/
end L2

set_option Elab.async false
set_option linter.all false
set_option maxRecDepth 100000
set_option maxHeartbeats 4000000
namespace L2
open PySem PySem.Spec PyProof.Rows

/-- an exception at e of the class cls: its dict, its newest trace entry (if there is one), the frame it flies in -/
structure Fly (h : Heap) (e : Addr) (cls : Value) (dx : Option Addr) (T : Option Addr) (fl : Value) : Prop where
  ob : ∃ oe vs, h.get? e = some oe ∧ oe.cls = cls ∧ oe.dict = dx ∧ oe.data = .fields vs ∧ vs[1]? = some (T.elim Value.none Value.ref)
  tr : ∀ t, T = some t → t ≠ e ∧ ∃ oT ts, h.get? t = some oT ∧ oT.data = .fields ts ∧ ts[3]? = some fl

/-- all but e and its old trace entry is kept, the frames up to their slots -/
def KeepBut (fs : List Addr) (e : Addr) (T : Option Addr) (h h' : Heap) : Prop :=
  ∀ b o, h.get? b = some o → b ≠ e → T ≠ some b → (b ∉ fs → h'.get? b = some o) ∧ ∃ sl, h'.get? b = some { o with slots := sl }

theorem dict_mapF (o : Obj) (f : Array Value → Array Value) : (o.mapFields f).dict = o.dict := by
  obtain ⟨c, d, dt, sl⟩ := o
  cases dt <;> rfl

section
variable {M : Model} {A : Around} {E : Value → Shared → Prop} {s : Shared} {base : Heap} {env : Env} {outer : List Env} {L e : Addr} {cls : Value} {dx T : Option Addr} {Q : Unit → Shared → Prop}

/-- a note of a frame, and the pointer to it in the exception -/
def tbObj (top : Value) (L : Addr) (pl : List Value) : Obj := { cls := .type "traceback", data := .fields ([top, .ref L, .none, rawInt L, .none] ++ (if pl.isEmpty then List.replicate 6 Value.none else pl)).toArray }
abbrev ptr (n : Addr) : Obj → Obj := Obj.mapFields fun z => z.setIfInBounds 1 (Value.ref n)
theorem entry_ok {oe : Obj} {fs : Array Value} {top : Value} {nx : Bool} (fr : A.frames = some (env :: outer)) (ff : s.heap.FunFrames base (env :: outer)) (fe : env.frame = some L)
    (ge : s.heap.get? e = some oe) (de : oe.data = .fields fs) (se : 1 < fs.size)
    (q : ∀ g n, s.heap.objs.size ≤ n → Fly g e oe.cls oe.dict (some n) (rawInt L) → KeepBut (frs (env :: outer)) e none s.heap g → Q () { s with heap := g }) :
    wpAny M A (frameOf env >>= fun a => entryPlaceOf L nx >>= fun pl => EntryCells.newEntry top a .none (rawInt L) .none pl >>= fun b => setField (.ref e) 1 b) Q E s := by
  have out : e ∉ (env :: outer).filterMap (·.frame) := fun z => by
    obtain ⟨_, u, gu, nf⟩ := ff.mem z
    cases ge.symm.trans gu
    exact nf fs de
  refine wpAny_bind (wpAny_frameOf_fun fr ff fe fun g sg => wpAny_bind (wpAny_entryPlaceOf fun pl hp => ?_))
  unfold EntryCells.newEntry
  unfold newFields
  have g1 : g.get? e = some oe := (sg.2.1 e out).trans ge
  have g2 : (g.push (tbObj top L pl)).get? e = some oe := Heap.get?_push_of_some _ g1
  have gt : (g.push (tbObj top L pl)).get? g.objs.size = some (tbObj top L pl) := Heap.get?_push_size g rfl
  have far : g.objs.size ≠ e := Nat.ne_of_gt (Heap.lt_size g1)
  refine wpAny_bind (wpAny_newObj_type (wpAny_setField (i := 1) g2 de se (q _ g.objs.size (Nat.le_of_eq sg.1.symm) ?_ ?_)) (hp.sizeOk5 _ _ _ _ _))
  · have d3 := Obj.data_mapFields de fun z => z.setIfInBounds 1 (Value.ref g.objs.size)
    refine ⟨⟨_, _, Heap.get?_update_self (ptr g.objs.size) g2 (Obj.isFreed_of_fields d3), Obj.cls_mapFields _ _, dict_mapF _ _, d3, by simp [se]⟩, fun n hn => ?_⟩
    cases hn
    refine ⟨far, _, _, (Heap.get?_update_other _ (ptr g.objs.size) (Ne.symm far)).trans gt, rfl, ?_⟩
    rcases hp with rfl | ⟨_, _, _, _, _, _, _, rfl⟩ <;> simp
  · intro b o hb hbe _
    have k : ∀ u, g.get? b = some u → ((g.push (tbObj top L pl)).update e (ptr g.objs.size)).get? b = some u := fun u z => (Heap.get?_update_other _ _ (Ne.symm hbe)).trans (Heap.get?_push_of_some _ z)
    obtain ⟨sl, hs⟩ := sg.2.2 b o hb
    exact ⟨fun hbf => k o ((sg.2.1 b hbf).trans hb), sl, k _ hs⟩

theorem ref_not_none (n : Addr) : (Value.ref n != Value.none) = true := by simp
theorem note_ok (fr : A.frames = some (env :: outer)) (ff : s.heap.FunFrames base (env :: outer)) (fe : env.frame = some L) (F : Fly s.heap e cls dx T .none)
    (q : ∀ g n, s.heap.objs.size ≤ n → Fly g e cls dx (some n) (rawInt L) → KeepBut (frs (env :: outer)) e T s.heap g → Q () { s with heap := g }) : wpAny M A (noteFrame (.ref e) env) Q E s := by
  obtain ⟨⟨oe, fs, ge, rfl, rfl, de, a1⟩, tr⟩ := F
  have se : 1 < fs.size := (Array.getElem?_eq_some_iff.mp a1).choose
  unfold noteFrame
  simp only [fe]
  refine wpAny_bind (wpAny_field ge de a1 ?_)
  cases T with
  | none =>
    show wpAny M A (if ((Value.none : Value) != Value.none) = true then _ else _) _ _ _
    rw [if_neg (by decide)]
    exact entry_ok fr ff fe ge de se q
  | some n0 =>
    obtain ⟨far, on, ns, gn, dn, a3⟩ := tr n0 rfl
    show wpAny M A (if ((Value.ref n0 : Value) != Value.none) = true then _ else _) _ _ _
    rw [if_pos (ref_not_none n0)]
    refine wpAny_bind (wpAny_field gn dn a3 ?_)
    rw [if_neg (by simp [rawInt])]
    have oth : ∀ b, b ≠ n0 → (s.heap.update n0 (Obj.mapFields fun z => z.setIfInBounds 3 Value.none)).get? b = s.heap.get? b := fun b hb => Heap.get?_update_other _ _ (Ne.symm hb)
    have own : ∀ b o, s.heap.get? b = some o → (∀ zs, o.data ≠ .fields zs) → b ≠ n0 := fun b o hb nf z => by
      subst z
      cases gn.symm.trans hb
      exact nf ns dn
    refine wpAny_bind (wpAny_setField gn dn (Array.getElem?_eq_some_iff.mp a3).choose ?_)
    refine entry_ok fr (ff.of_keeps fun b o hb nf => ⟨o, (oth b (own b o hb nf)).trans hb, rfl⟩) fe ((oth e (Ne.symm far)).trans ge) de se fun g n hn F' k => ?_
    have e0 : (s.heap.update n0 (Obj.mapFields fun z => z.setIfInBounds 3 Value.none)).objs.size = s.heap.objs.size := Heap.size_after_update ..
    refine q g n (by rw [← e0]; exact hn) F' fun b o hb hbe hbT => ?_
    have hb' : b ≠ n0 := fun z => hbT (congrArg some z.symm)
    exact k b o ((oth b hb').trans hb) hbe (by simp)

theorem flight_ok {t : Addr} {fl : Value} (F : Fly s.heap e cls dx (some t) fl)
    (h : ∀ h', Fly h' e cls dx (some t) .none → (∀ b, b ≠ t → h'.get? b = s.heap.get? b) → Q () { s with heap := h' }) : wpAny M A (setFlight (.ref e) none) Q E s := by
  obtain ⟨⟨oe, vs, he, hcls, hdx, hd, h1⟩, htr⟩ := F
  obtain ⟨hTe, oT, ts, hT, hdT, h3⟩ := htr t rfl
  have hsz : 3 < ts.size := (Array.getElem?_eq_some_iff.mp h3).1
  have other : ∀ b, b ≠ t → (s.heap.update t (Obj.mapFields (·.setIfInBounds 3 ((none : Option Addr).elim Value.none fun f => rawInt f)))).get? b = s.heap.get? b := fun b hb => Heap.get?_update_other _ _ (Ne.symm hb)
  unfold setFlight
  refine wpAny_bind (wpAny_field he hd (x := .ref t) h1 ?_)
  rw [if_pos (ref_not_none t)]
  refine wpAny_setField hT hdT hsz (h _ ⟨⟨oe, vs, (other e (Ne.symm hTe)).trans he, hcls, hdx, hd, h1⟩, fun t' ht => ?_⟩ other)
  obtain rfl := Option.some.inj ht
  exact ⟨hTe, _, _, Heap.get?_update_self _ hT (Obj.isFreed_of_fields (Obj.data_mapFields hdT _)), Obj.data_mapFields hdT _, by simp [hsz]⟩

theorem leave_ok (hfr : A.frames = some (env :: outer)) (hl : s.heap.FunFrames base (env :: outer)) (hf : env.frame = some L) (F : Fly s.heap e cls dx T .none)
    (h : ∀ h' t, s.heap.objs.size ≤ t → Fly h' e cls dx (some t) .none → KeepBut (frs (env :: outer)) e T s.heap h' → Q () { s with heap := h' }) :
    wpAny M A (leaving env (.ref e)) Q E s := by
  unfold leaving
  refine wpAny_bind (note_ok hfr hl hf F fun h1 t ht F1 k1 => ?_)
  refine flight_ok F1 fun h2 F2 k2 => h h2 t ht F2 fun b o hb hbe hbT => ?_
  have hbt : b ≠ t := fun z => absurd (Heap.lt_size hb) (by rw [z]; exact Nat.not_lt.mpr ht)
  obtain ⟨q1, sl, q2⟩ := k1 b o hb hbe hbT
  exact ⟨fun hbf => (k2 b hbt).trans (q1 hbf), sl, (k2 b hbt).trans q2⟩
end

/-- what is tracked stands in the heap -/
theorem ObjOk.has {P : Program} {w : World} {H : Hp} {h : Heap} {a : Addr} {o : HO} (x : ObjOk P w H h a o) : ∃ u, h.get? a = some u := by
  cases o with
  | lst xs => obtain ⟨_, _, _, _, e⟩ := x; exact ⟨_, e⟩
  | tup xs => obtain ⟨_, _, _, o, e, _⟩ := x; exact ⟨_, e⟩
  | dK kvs => obtain ⟨_, _, _, _, o, _, _, e, _⟩ := x; exact ⟨_, e⟩
  | dT kvs => obtain ⟨_, _, _, _, o, _, _, e, _⟩ := x; exact ⟨_, e⟩
  | set S n => obtain ⟨o, _, _, _, e, _⟩ := x; exact ⟨_, e⟩
  | ins C dx fs => obtain ⟨_, _, _, e, _⟩ := x; exact ⟨_, e⟩
  | own y => obtain ⟨_, e⟩ := x; exact ⟨_, e⟩
  | xd fs => obtain ⟨_, ⟨_, _, _, e, _⟩, _⟩ := x; exact ⟨_, e⟩
  | rng lo hi => obtain ⟨_, _, _, e⟩ := x; exact ⟨_, e⟩
  | frz ob u => obtain ⟨e, _⟩ := x; exact ⟨_, e⟩
  | tbl ps => obtain ⟨_, e, _⟩ := x; exact ⟨_, e⟩
  | code q => obtain ⟨_, _, _, e, _⟩ := x; exact ⟨_, e⟩
  | met f y => exact ⟨_, (show h.get? a = some _ from x)⟩
  | ext φ => obtain ⟨_, ⟨_, e⟩, _⟩ := x; exact ⟨_, e⟩
theorem HOk.has {P : Program} {w : World} {H : Hp} {h : Heap} (x : HOk P w H h) {a : Addr} {o : HO} (e : H a = some o) : ∃ u, h.get? a = some u := (x a o e).has

/-! ### an exception that has come into a body -/
def New (X : Cx) (pins : List (Addr × Obj)) (H : Hp) (a : Addr) : Prop := X.s_0.heap.get? a = none ∧ H a = none ∧ ∀ p ∈ X.pn ++ pins, p.1 ≠ a
structure Arr (X : Cx) (pins : List (Addr × Obj)) (σ : St) (H : Hp) (s : Shared) (e C : Addr) (dx : Option Addr) : Prop where
  inv : Inv X pins σ H s
  new : New X pins H e
  fly : ∃ T, Fly s.heap e (.ref C) dx T .none ∧ ∀ t, T = some t → New X pins H t
/-- E tells, of the names' values, the class, the dict and the heap, when the body may be left by an exception -/
structure XOk (X : Cx) (E : St → XK) : Prop where
  run : ∀ (pins : List (Addr × Obj)) (σ : St) (H : Hp) (s : Shared) (e C : Addr) (dx : Option Addr), Arr X pins σ H s e C dx → E σ (.ref C) dx H → X.xe (.ref e) s
  ex : X.ex = [] ∨ ∀ σ c dx H, ¬ E σ c dx H
abbrev E00 : St → XK := fun _ _ _ _ => False
theorem xok0 {X : Cx} : XOk X E00 := ⟨fun _ _ _ _ _ _ _ _ h => h.elim, .inr fun _ _ _ _ h => h⟩

/-- how an exception lies behind a call -/
def CXr (P : Program) (w : World) : CXT := fun outer H0 s0 E ev s' => ∃ (e C t : Addr) (dx : Option Addr) (H' : Hp), ev = .ref e ∧ E (.ref C) dx H' ∧ s'.os = s0.os ∧ AllBare s'.gens ∧ Un (frs outer) [] H0 H' s0.heap s'.heap ∧ HOk P w H' s'.heap ∧
  s0.heap.get? e = none ∧ s0.heap.get? t = none ∧ H' e = none ∧ H' t = none ∧ Fly s'.heap e (.ref C) dx (some t) .none

/-- what stays: all tracked things, the frame's map, the cells, the pins -/
theorem Arr.hok {X : Cx} {pins : List (Addr × Obj)} {σ : St} {H : Hp} {s : Shared} {e : Addr} {T : Option Addr} {h' : Heap} {fs : List Addr} (I : Inv X pins σ H s) (hfs : ∀ b ∈ fs, H b = none) (he : H e = none) (hT : ∀ t, T = some t → H t = none)
    (k : KeepBut fs e T s.heap h') : HOk X.prog X.w H h' := fun a o ha => by
  have kk : ∀ b u, H b ≠ none → s.heap.get? b = some u → h'.get? b = some u := fun b u hb q => (k b u q (fun z => hb (by rw [z]; exact he)) (fun z => hb (hT b z))).1 (fun z => hb (hfs b z))
  refine (I.hok a o ha).stay (fun b u hb q => kk b u ?_ q) (fun _ q => q) fun _ _ _ q => q
  rcases hb with rfl | hb
  · rw [ha]; simp
  · rw [hb]; simp

theorem xok_fn {P : Program} {w : World} {K : PySem.W.Frag} {mg : Str → Option Value} {base : Heap} {N : List Str} {qual : Str} {scope : Scope} {f : Addr} {cd : Value} {A : Around} {outer : List Env} {s : Shared} {H : Hp} {E : XK} :
    XOk (cxOf (CXr P w) P w K mg base N qual scope f cd A outer s H E) (fun _ => E) := by
  refine ⟨?_, .inl rfl⟩
  intro pins σ H1 s1 e C dx ⟨I, ⟨n1, n2, n3⟩, T, F, nT⟩ hE
  show wpAny (model P w) (A.deeper (envOfC qual scope s.heap.objs.size f cd)) (leaving (envOfC qual scope s.heap.objs.size f cd) (.ref e)) (fun _ s'' => CXr P w outer H s E (.ref e) s'') _ s1
  have hfr : (A.deeper (envOfC qual scope s.heap.objs.size f cd)).frames = some (envOfC qual scope s.heap.objs.size f cd :: outer) := I.ok.frames
  have hst : s1.heap.FunFrames base (envOfC qual scope s.heap.objs.size f cd :: outer) := I.stack
  have hsf : ∀ b ∈ frs (envOfC qual scope s.heap.objs.size f cd :: outer), H1 b = none := I.stkFree
  have hbase : Un (frs outer) [] H H1 s.heap s1.heap := I.base
  refine leave_ok hfr hst rfl F fun h' t ht F' k => ?_
  have ht0 : s.heap.get? t = none := Heap.get?_none_of_le (Nat.le_trans I.sz ht)
  have ne : ∀ b o, s.heap.get? b = some o → b ≠ e := fun b o q z => by
    have n1' : s.heap.get? e = none := n1
    rw [z, n1'] at q; cases q
  have nt : ∀ b o, s.heap.get? b = some o → T ≠ some b := fun b o q z => by
    have n1' : s.heap.get? b = none := (nT b z).1
    rw [n1'] at q; cases q
  refine ⟨e, C, t, dx, H1, rfl, hE, I.os, I.bare, ⟨fun b o q n hb hx => ?_, fun b o q n hb hx => ?_, hbase.free, fun b o q hx => ?_, hbase.tups, hbase.frzs, hbase.tbls⟩,
    Arr.hok I hsf n2 (fun t z => (nT t z).2.1) k, n1, ht0, n2, I.hok.fresh ht, F'⟩
  · refine (k b o (hbase.keep b o q n hb hx) (ne b o q) (nt b o q)).1 fun z => ?_
    have z' : b ∈ s.heap.objs.size :: frs outer := z
    rcases List.mem_cons.mp z' with z' | z'
    · exact absurd (Heap.lt_size q) (by rw [z']; exact Nat.lt_irrefl _)
    · exact hb z'
  · obtain ⟨sl, q1⟩ := hbase.slot b o q n hb hx
    obtain ⟨_, sl', q2⟩ := k b _ q1 (ne b o q) (nt b o q)
    exact ⟨sl', q2⟩
  · obtain ⟨o', q1⟩ := hbase.there b o q hx
    obtain ⟨_, sl', q2⟩ := k b _ q1 (ne b o q) (nt b o q)
    exact ⟨_, q2⟩

/-! ### calls that may raise -/
def tCallX (sp : Sp) (dvs : List V) (E : St → XK) (t : TA) : TE := fun σ H Q => t σ H fun vs H1 => sp (vs ++ dvs) H1 Q (E σ)
section
variable {X : Cx} {k : Nat} {f C : Addr} {fd : FuncData} {ps : List Str} {sp : Sp} {dvs : List V} {ds : List Value} {E : St → XK} {x m : Str} {p pos apos : Pos} {e o : Expr} {es : List Expr} {ta : TE} {t : TA}
theorem xok_pass (hx : XOk X E) {pins : List (Addr × Obj)} {σ : St} {H : Hp} {s : Shared} {ev : Value} {s' : Shared} (I : Inv X pins σ H s) (h : CXr X.prog X.w X.stack H s (E σ) ev s') : X.xe ev s' := by
  obtain ⟨e, C, t, dx, H', rfl, hE, os, bare, un, hok, n1, n2, f1, f2, fl⟩ := h
  have hex : X.ex = [] := hx.ex.elim id fun z => absurd hE (z _ _ _ _)
  have n0 : ∀ a, s.heap.get? a = none → X.s_0.heap.get? a = none := fun a ha => by
    cases q : X.s_0.heap.get? a with
    | none => rfl
    | some o =>
      obtain ⟨o', q'⟩ := I.base.there a o q (by rw [hex]; simp)
      rw [ha] at q'; cases q'
  have I' : Inv X pins σ H' s' := I.call' (ch := []) os un hok bare (fun b z => absurd z (by simp))
  have np : ∀ a, s.heap.get? a = none → ∀ p ∈ X.pn ++ pins, p.1 ≠ a := fun a ha p hp z => by
    have q := (I.pin p hp).1
    rw [z, ha] at q; cases q
  refine hx.run pins σ H' s' e C dx ⟨I', ⟨n0 e n1, f1, np e n1⟩, some t, fl, fun t' z => ?_⟩ hE
  obtain rfl := Option.some.inj z
  exact ⟨n0 _ n2, f2, np _ n2⟩
theorem run_fnX {pins : List (Addr × Obj)} {σ : St} {H : Hp} {s : Shared} {Q : VK} {us : List Value} {vs : List V} (F : FnOk X.prog X.w X.K X.mg X.base (CXr X.prog X.w) k f fd ps sp) (hr : Room k X.A) (hb : Binds X.K fd ps ds) (hd : Vals dvs ds) (hx : XOk X E)
    (I : Inv X pins σ H s) (r : Vals vs us) (h : sp (vs ++ dvs) H Q (E σ)) : wpAny (model X.prog X.w) X.A (call (.ref f) us) (EP X pins σ Q) X.xe s := by
  have r2 : Vals (vs ++ dvs) (us ++ ds) := r.append hd
  have hl : (us ++ ds).length = ps.length := by rw [← r2.length]; exact F.len _ _ _ _ h
  refine wpAny_call (codeAny_mono (F.run X.A X.stack s H ⟨us, []⟩ (us ++ ds) (vs ++ dvs) Q (E σ) hr I.env0 (hb s us I.kIn hl) r2 h) fun r s' hq => ?_)
  cases r with
  | error e => exact xok_pass hx I hq
  | ok fl =>
    cases fl with
    | ret u => exact I.after hq
    | next => exact False.elim hq
    | brk => exact False.elim hq
    | cont => exact False.elim hq
theorem pe_callX (F : FnOk X.prog X.w X.K X.mg X.base (CXr X.prog X.w) k f fd ps sp) (hr : Room k X.A) (hg : Gl X x) (hm : X.mg x = some (.ref f)) (hk : PySem.W.keepIn X.K (.ref f) = true) (hb : Binds X.K fd ps ds) (hd : Vals dvs ds) (hx : XOk X E)
    (ha : PA X (e :: es) t) (hdb : (x == ("__debug__" : Str)) = false := by decide) (he : starEach (e :: es) X.env = (false, eval e X.env) :: starEach es X.env := by rfl) (hpl : (backTo pos (starEach es X.env)).any (·.1) = false := by rfl) :
    PE X (.Call (.Name x p) (e :: es) [] pos) (tCallX sp dvs E t) := by
  intro pins s σ H Q I h
  refine wpAny_Call_Name_kw (ld_glob I hg hm ?_ hdb)
  refine PySem.W.callWith_K (h₀ := X.base) I.ok.mod.kin hk (thn (ha pos pins s σ H _ I h) fun us s1 ⟨vs, H1, I1, r, q⟩ => ⟨I1.kIn, ?_⟩) he hpl
  exact run_fnX F hr hb hd hx I1 r q
end

/-! ### a def that may raise -/
theorem Fun.okX {P : Program} {w : World} {K : PySem.W.Frag} {mg : Str → Option Value} {base : Heap} {x qual : Str} {st : Stmt} {f : Addr} {fd : FuncData} {N ps : List Str} {k : Nat} {sp : Sp} (F : Fun K x qual st f fd) (S : FnScope N ps (defScope st)) (len : ∀ vs H Q E, sp vs H Q E → vs.length = ps.length)
    (hbody : ∀ (cdv : Value) (A : Around) (outer : List Env) (s : Shared) (H : Hp) (vs : List V) (Q : VK) (E : XK), Room k (A.deeper (envOfC qual (defScope st) s.heap.objs.size f cdv)) → sp vs H Q E →
      ∃ t, PSs (cxOf (CXr P w) P w K mg base N qual (defScope st) f cdv A outer s H E) (defBody st) t ∧ t { nx := fun _ H' => Q .non H', rt := Q } (start N vs) H) : FnOk P w K mg base (CXr P w) (k + 1) f fd ps sp := by
  obtain ⟨oc, od, kV, doc, pm, an, cdv, ct, osl, rfl, lk, hcd⟩ := F.ex
  exact fn_of lk hcd S len fun A outer s H vs Q E hr hsp => hbody cdv A outer s H vs Q E hr hsp
/-- .. that doesn't raise -/
theorem Fun.okN {P : Program} {w : World} {K : PySem.W.Frag} {mg : Str → Option Value} {base : Heap} {x qual : Str} {st : Stmt} {f : Addr} {fd : FuncData} {N ps : List Str} {k : Nat} {sp : Sp} (F : Fun K x qual st f fd) (S : FnScope N ps (defScope st)) (len : ∀ vs H Q E, sp vs H Q E → vs.length = ps.length)
    (hbody : ∀ (cdv : Value) (A : Around) (outer : List Env) (s : Shared) (H : Hp) (vs : List V) (Q : VK) (E : XK), Room k (A.deeper (envOfC qual (defScope st) s.heap.objs.size f cdv)) → sp vs H Q E →
      ∃ t, PSs (cxOf (CXr P w) P w K mg base N qual (defScope st) f cdv A outer s H E).nox (defBody st) t ∧ t { nx := fun _ H' => Q .non H', rt := Q } (start N vs) H) : FnOk P w K mg base (CXr P w) (k + 1) f fd ps sp :=
  F.okX S len fun cdv A outer s H vs Q E hr hsp => let ⟨t, h, q⟩ := hbody cdv A outer s H vs Q E hr hsp; ⟨t, h.nox, q⟩

/-! ### raise C('..'), C an own class without an __init__ -/
/-- what a class of exceptions must have -/
structure XCls (K : PySem.W.Frag) (C : Addr) : Prop where
  own : PySem.W.excIn K C [.type "ValueError", .type "Exception", .type "BaseException", .type "object"] "ValueError.__new__" = true
theorem xcls_own {K : PySem.W.Frag} {h : Heap} {mg : Str → Option Value} {x : Str} {C : Addr} (c : XCls K C) (X : K.In h) (hm : mg x = some (.ref C)) :
    OwnCls x C [.type "ValueError", .type "Exception", .type "BaseException", .type "object"] "ValueError.__new__" mg h := by
  refine ⟨hm, ?_⟩
  have q := c.own
  unfold PySem.W.excIn at q
  split at q
  · rename_i dd cd sl ho
    split at q
    · rename_i C' bm k0 k1 k2 k3 nb k5 hm hs
      simp only [Bool.and_eq_true, beq_iff_eq, Bool.not_eq_true'] at q
      obtain ⟨⟨⟨⟨⟨rfl, rfl⟩, hde⟩, ht⟩, hok⟩, hni⟩ := q
      obtain ⟨nm, bs, mr, ns, qn, hd, sn, sub, ab, col, dl⟩ := cd
      dsimp only at hm hde hok hni
      subst hm hde
      have hsl : sl = #[k0, k1, k2, k3, some (.builtin "ValueError.__new__"), k5] := by
        obtain ⟨l⟩ := sl
        simp only at hs
        rw [hs]
      subst hsl
      exact ⟨bm, ns, nm, qn, bs, hd, sn, sub, ab, col, dd, k0, k1, k2, k3, k5, _, X _ _ ho, .of_isNs (PySem.W.isNs_of_in X hok), PySem.W.nsMap_none_of_in X hok hni, PySem.W.tail_of_in X ht⟩
    · cases q
  · cases q

def tRaise (C : Addr) (E : St → XK) (t : TA) : TS := fun _ σ H => t σ H fun vs H1 => vs.length ≤ sizeLine ∧ E σ (.ref C) none H1
section
variable {X : Cx} {C : Addr} {E : St → XK} {x : Str} {np cpos pos : Pos} {e : Expr} {es : List Expr} {t : TA}
theorem ps_raise (c : XCls X.K C) (hc : X.calm = true) (hg : Gl X x) (hm : X.mg x = some (.ref C)) (hx : XOk X E) (ha : PA X (e :: es) t) (hdb : (x == ("__debug__" : Str)) = false := by decide)
    (he : starEach (e :: es) X.env = (false, eval e X.env) :: starEach es X.env := by rfl) (hpl : (backTo cpos (starEach es X.env)).any (·.1) = false := by rfl) :
    PS X (.Raise (some (.Call (.Name x np) (e :: es) [] cpos)) none pos) (tRaise C E t) := by
  intro pins s σ H D I h
  obtain ⟨_, tl, N, nm, q, bs, hdct, sn, sub, ab, col, dd, k0, k1, k2, k3, k5, mN, hC, hN, hni, T⟩ := xcls_own c I.ok.mod.kin hm
  refine wpAny_Raise_call_subT (C := C) (nm := nm) (q := q) (N := N) (bs := bs) (bm := tl) (hdct := hdct) (sn := sn) (sub := sub) (ab := ab) (col := col) (dd := dd) (k0 := k0) (k1 := k1) (k2 := k2) (k3 := k3) (k5 := k5)
    PySem.F.excBase_ValueError (mN := mN) (T.hasType PySem.F.excBase_ValueError.hasBase) (I.ok.hd hc) (by rw [he]; show (false || (backTo cpos (starEach es X.env)).any (·.1)) = false; rw [hpl]; rfl) hni (ld_glob I hg hm ⟨rfl, ?_⟩ hdb)
  have hap := ha cpos pins s σ H _ I h
  rw [he] at hap ⊢
  refine Calls.evalArgs_plain (wpAny_mono hap (fun us s2 h2 => ?_) fun _ _ y => y)
  obtain ⟨vs, H1, I1, r, hz, hE⟩ := h2
  have kb : ∀ b o, X.base.get? b = some o → s2.heap.get? b = some o := I1.bk
  refine ⟨rfl, by rw [← r.length]; exact hz, kb _ _ hC, hN.keeps kb, T.keeps kb, fun h' ea hm => ?_⟩
  obtain ⟨t0, ht1, ht2, ht3⟩ := hm.there
  have I2 : Inv X pins σ H1 { s2 with heap := h' } := I1.kept (t' := s2.toks) hm.keeps
  have hex : X.ex = [] := hx.ex.elim id fun z => absurd hE (z _ _ _ _)
  refine hx.run pins σ H1 _ ea C none ⟨I2, ⟨?_, ?_, fun p hp z => ?_⟩, none, ⟨⟨_, _, ht1, rfl, rfl, rfl, rfl⟩, fun t z => nomatch z⟩, fun t z => nomatch z⟩ hE
  · cases q : X.s_0.heap.get? ea with
    | none => rfl
    | some o =>
      obtain ⟨o', q'⟩ := I1.base.there ea o q (by rw [hex]; simp)
      rw [hm.new] at q'; cases q'
  · cases q : H1 ea with
    | none => rfl
    | some o =>
      obtain ⟨u, q'⟩ := HOk.has I1.hok q
      rw [hm.new] at q'; cases q'
  · have q := (I1.pin p hp).1
    rw [z, hm.new] at q; cases q
end
end L2

set_option Elab.async false
set_option linter.all false
set_option maxRecDepth 100000
set_option maxHeartbeats 4000000
namespace L2
open PySem PySem.Spec PyProof.Rows

section
variable {X : Cx} {pins : List (Addr × Obj)} {σ : St} {H : Hp} {s : Shared} {e : Addr} {T : Option Addr} {h' : Heap}

/-- an exception (and its trace) has turned, all else stands -/
theorem Inv.fly {t' : Nat} (I : Inv X pins σ H s) (hex : X.ex = []) (ne : New X pins H e) (nT : ∀ t, T = some t → New X pins H t)
    (fe : ∃ o vs, s.heap.get? e = some o ∧ o.data = .fields vs) (fT : ∀ t, T = some t → ∃ o vs, s.heap.get? t = some o ∧ o.data = .fields vs)
    (k : KeepBut (frs X.stack) e T s.heap h') : Inv X pins σ H { s with heap := h', toks := t' } := by
  have nf : ∀ b o, s.heap.get? b = some o → (∀ vs, o.data ≠ .fields vs) → b ≠ e ∧ T ≠ some b := fun b o q hn => by
    refine ⟨fun z => ?_, fun z => ?_⟩
    · obtain ⟨o', vs, q1, q2⟩ := fe
      rw [z, q1] at q; cases q; exact hn vs q2
    · obtain ⟨o', vs, q1, q2⟩ := fT b z
      rw [q1] at q; cases q; exact hn vs q2
  have n0 : ∀ b o, X.s_0.heap.get? b = some o → b ≠ e ∧ T ≠ some b := fun b o q => by
    refine ⟨fun z => ?_, fun z => ?_⟩
    · rw [z, ne.1] at q; cases q
    · rw [(nT b z).1] at q; cases q
  have cellK : ∀ c v, s.heap.IsCell c v → Heap.IsCell h' c v := fun c v ⟨o, ho, hd⟩ => by
    obtain ⟨a1, a2⟩ := nf c o ho (fun vs z => by rw [hd] at z; cases z)
    obtain ⟨_, sl, q⟩ := k c o ho a1 a2
    exact ⟨_, q, hd⟩
  obtain ⟨m, hn, hl⟩ := id I.loc
  refine ⟨I.ok, I.os, I.bare, ⟨fun b o q n hb hx => ?_, fun b o q n hb hx => ?_, I.base.free, fun b o q hx => ?_, I.base.tups, I.base.frzs, I.base.tbls⟩, ⟨m, ?_, fun i x v e1 e2 e3 => ?_⟩, fun x c q => ?_, I.free, I.freeC, fun p hp => ?_,
    Arr.hok I I.stkFree ne.2.1 (fun t z => (nT t z).2.1) k, I.len⟩
  · refine (k b o (I.base.keep b o q n hb hx) (n0 b o q).1 (n0 b o q).2).1 fun z => ?_
    rcases List.mem_cons.mp (I.stkSub b z) with z | z
    · exact absurd (Nat.lt_of_lt_of_le (Heap.lt_size q) I.ok.above) (by rw [z]; exact Nat.lt_irrefl _)
    · exact hb z
  · obtain ⟨sl, q1⟩ := I.base.slot b o q n hb hx
    obtain ⟨_, sl', q2⟩ := k b _ q1 (n0 b o q).1 (n0 b o q).2
    exact ⟨sl', q2⟩
  · obtain ⟨o', q1⟩ := I.base.there b o q hx
    obtain ⟨_, sl', q2⟩ := k b _ q1 (n0 b o q).1 (n0 b o q).2
    exact ⟨_, q2⟩
  · obtain ⟨o, es, ep, ho, hd, r⟩ := hn
    obtain ⟨a1, a2⟩ := nf _ o ho (fun vs z => by rw [hd] at z; cases z)
    obtain ⟨_, sl, q⟩ := k _ o ho a1 a2
    exact ⟨_, es, ep, q, hd, r⟩
  · obtain ⟨u, r, l⟩ := hl i x v e1 e2 e3
    refine ⟨u, r, ?_⟩
    rcases l with l | ⟨kd, c, e, z⟩
    · exact .inl l
    · exact .inr ⟨kd, c, e, cellK c _ z⟩
  · obtain ⟨v, z⟩ := I.cell x c q
    exact ⟨v, cellK c v z⟩
  · obtain ⟨q, n, nl, nfs, d⟩ := I.pin p hp
    refine ⟨(k p.1 p.2 q (ne.2.2 p hp) (fun z => (nT p.1 z).2.2 p hp rfl)).1 fun z => ?_, n, nl, nfs, d⟩
    rcases List.mem_cons.mp (I.stkSub p.1 z) with z | z
    · exact nl z
    · exact nfs z

/-- an untracked thing of ours is tracked from now on -/
theorem Inv.track {o : HO} (I : Inv X pins σ H s) (ne : New X pins H e) (fe : ∃ o vs, s.heap.get? e = some o ∧ o.data = .fields vs) (new : ObjOk X.prog X.w (upd H e o) s.heap e o) : Inv X pins σ (upd H e o) s := by
  obtain ⟨oe, ve, he, hde⟩ := fe
  obtain ⟨m, hn, hl⟩ := id I.loc
  have hL : X.env.locals ≠ e := fun z => by
    obtain ⟨o, es, ep, ho, hd, r⟩ := hn
    rw [z, he] at ho; cases ho; rw [hde] at hd; cases hd
  have hc : ∀ x c, X.env.cells.lookup x = some c → c ≠ e := fun x c q z => by
    obtain ⟨v, o, ho, hd⟩ := I.cell x c q
    rw [z, he] at ho; cases ho; rw [hde] at hd; cases hd
  refine ⟨I.ok, I.os, I.bare, ⟨I.base.keep, I.base.slot, fun b o q n hx => ?_, I.base.there, fun b xs q => ?_, fun b o u q => ?_, fun b ps q => ?_⟩, I.loc, I.cell, ?_, fun x c q => ?_, fun p hp => ?_, fun b u q => ?_, I.len⟩
  · have hb : b ≠ e := fun z => by rw [z, ne.1] at q; cases q
    rw [upd_ne hb]; exact I.base.free b o q n hx
  · have q' := I.base.tups b xs q
    rw [upd_ne (ne_of_none q' ne.2.1)]; exact q'
  · have q' := I.base.frzs b o u q
    rw [upd_ne (ne_of_none q' ne.2.1)]; exact q'
  · obtain ⟨mo, q'⟩ := I.base.tbls b ps q
    exact ⟨mo, by rw [upd_ne (ne_of_none q' ne.2.1)]; exact q'⟩
  · rw [upd_ne hL]; exact I.free
  · rw [upd_ne (hc x c q)]; exact I.freeC x c q
  · obtain ⟨q, n, r⟩ := I.pin p hp
    exact ⟨q, by rw [upd_ne (ne.2.2 p hp)]; exact n, r⟩
  · by_cases hb : b = e
    · subst hb; rw [upd_same] at q; cases q; exact new
    · rw [upd_ne hb] at q
      exact (I.hok b u q).stay (fun c v _ z => z) (fun c z => by rw [upd_ne (ne_of_none z ne.2.1)]; exact z) fun c xs _ z => by rw [upd_ne (ne_of_none z ne.2.1)]; exact z
end

/-- an exception as a thing: its class, its dict -/
def excO (e C : Addr) (dx : Option Addr) : HO := .ext fun h => ∃ oe vs, h.get? e = some oe ∧ oe.cls = .ref C ∧ oe.dict = dx ∧ oe.data = .fields vs
theorem excO_ok {P : Program} {w : World} {H : Hp} {h : Heap} {e C : Addr} {dx T : Option Addr} {fl : Value} (F : Fly h e (.ref C) dx T fl) : ObjOk P w H h e (excO e C dx) := by
  obtain ⟨⟨oe, vs, he, hc, hd, hf, _⟩, _⟩ := F
  exact ⟨⟨oe, vs, he, hc, hd, hf⟩, ⟨oe, he⟩, fun h1 h2 ⟨o, v, q1, q2⟩ k => ⟨o, v, k o q1, q2⟩⟩

/-! ### the name behind an except suite goes -/
section
variable {X : Cx} {pins : List (Addr × Obj)} {σ : St} {H : Hp} {s : Shared} {M : Model} {A : Around} {E : Value → Shared → Prop} {Q : Unit → Shared → Prop} {n : Str} {i : Nat} {pos : Pos}
theorem name_goes (I : Inv X pins σ H s) (hN : X.N.Nodup) (hi : X.N[i]? = some n) (hx : X.env.scope.names.lookup n = some .local) (h : ∀ s', Inv X pins (σ.set i none) H s' → Q () s') :
    wpAny M A (do bindName X.env n .none; unbindBehindTheSuite X.env n pos) Q E s := by
  have hp : (X.env.scope.kind == .class || (X.env.scope.kind == .module && X.env.locals != X.env.globals)) = false := by rw [I.ok.kind]; rfl
  have hiσ : i < σ.length := by rw [I.len]; exact (List.getElem?_eq_some_iff.mp hi).1
  refine wpAny_bind (wpAny_bindName (store_ok (v := .non) (u := .none) I hN hi (.inl hx) rfl (fun s1 I1 => ?_) (.inr hx)))
  obtain ⟨m, hn, hl⟩ := id I1.loc
  obtain ⟨u, ru, lu⟩ := hl i n .non hi (List.getElem?_set_self hiσ) (.inl hx)
  have hmn : ∃ u, m n = some u := by
    rcases lu with ⟨_, z⟩ | ⟨z, _⟩
    · exact ⟨u, z⟩
    · have hk : X.env.kindOf n = some .local := hx
      rw [hk] at z
      rcases z with z | z <;> cases z
  obtain ⟨u', hu'⟩ := hmn
  unfold unbindBehindTheSuite
  refine wpAny_onRaise ?_
  unfold unbindName
  refine wpAny_bind (wpAny_point (wpAny_bind ?_))
  unfold deleteName
  have hk : X.env.kindOf n = some .local := hx
  simp only [hk, hp]
  rw [if_neg (by decide)]
  refine wpAny_bind (wpAny_nsDel_keeps hn fun h₂ v hn₂ hs₂ => ?_)
  rw [hu']
  simp only [if_true, Option.isSome_some, Bool.not_true, Bool.false_eq_true, if_false]
  refine wpAny_pure (wpAny_point (h _ ?_))
  have cne := I1.cne
  have tracked : HOk X.prog X.w H h₂ := fun b ob q => by
    refine (I1.hok b ob q).stay (fun c w' hc q => (hs₂.2 c ?_).trans q) (fun _ q => q) fun _ _ _ q => q
    rintro rfl
    rcases hc with rfl | hc
    · rw [I1.free] at q; cases q
    · rw [I1.free] at hc; cases hc
  refine ⟨I1.ok, I1.os, I1.bare, ⟨fun b o e n hb hx => ?_, fun b o e n hb hx => ?_, I1.base.free, fun b o e hx => ?_, I1.base.tups, I1.base.frzs, I1.base.tbls⟩, ⟨_, hn₂, fun j y v' e1 e2 e3 => ?_⟩, fun y c e => ?_, I1.free, I1.freeC, fun p hp => ?_, tracked, by simpa using I.len⟩
  · exact (hs₂.2 b (Nat.ne_of_lt (Nat.lt_of_lt_of_le (Heap.lt_size e) I1.ok.above))).trans (I1.base.keep b o e n hb hx)
  · obtain ⟨sl, e1⟩ := I1.base.slot b o e n hb hx
    exact ⟨sl, (hs₂.2 b (Nat.ne_of_lt (Nat.lt_of_lt_of_le (Heap.lt_size e) I1.ok.above))).trans e1⟩
  · obtain ⟨o', e1⟩ := I1.base.there b o e hx
    exact ⟨o', (hs₂.2 b (Nat.ne_of_lt (Nat.lt_of_lt_of_le (Heap.lt_size e) I1.ok.above))).trans e1⟩
  · by_cases hj : j = i
    · subst hj
      rw [List.getElem?_set_self hiσ] at e2
      cases e2
    · rw [List.getElem?_set_ne (Ne.symm hj)] at e2
      obtain ⟨u', r', q⟩ := hl j y v' e1 (by rw [List.getElem?_set_ne (Ne.symm hj)]; exact e2) e3
      refine ⟨u', r', ?_⟩
      rcases q with ⟨k, e⟩ | ⟨k, c, e, z⟩
      · refine .inl ⟨k, ?_⟩
        have : y ≠ n := fun e => hj (nodup_ix hN e1 (e ▸ hi))
        simp [this, e]
      · exact .inr ⟨k, c, e, z.sameBut hs₂ (cne y c e)⟩
  · obtain ⟨w', z⟩ := I1.cell y c e
    exact ⟨w', z.sameBut hs₂ (cne y c e)⟩
  · obtain ⟨e, n, ne, nf, d⟩ := I1.pin p hp
    exact ⟨(hs₂.2 p.1 ne).trans e, n, ne, nf, d⟩
end

/-! ### does the class match -/
section
variable {M : Model} {A : Around} {E : Value → Shared → Prop}
variable {nm q : Str} {C N : Addr} {bs bm : List Value} {hdct : Bool} {sn : List Str} {sub : List Value} {ab : Bool} {col : Option Bool} {dd : Option Addr} {k0 k1 k2 k3 k5 : Option Value} {newId : String}
variable {nm' q' : Str} {C' N' : Addr} {bs' bm' : List Value} {hdct' : Bool} {sn' : List Str} {sub' : List Value} {ab' : Bool} {col' : Option Bool} {dd' : Option Addr} {k0' k1' k2' k3' k5' : Option Value} {newId' : String}
theorem match_ok {h : Heap} {g : Array GenState} {d : Drawn} {t : Nat} {os : OsState} {e : Addr} {oe : Obj} {Q : Bool → Shared → Prop}
    (hC : h.get? C = some (PySem.excClassObj nm q C N bs bm hdct sn sub ab col dd k0 k1 k2 k3 k5 newId)) (hC' : h.get? C' = some (PySem.excClassObj nm' q' C' N' bs' bm' hdct' sn' sub' ab' col' dd' k0' k1' k2' k3' k5' newId')) (he : h.get? e = some oe) (hcls : oe.cls = .ref C) (hbase : bm'.contains (.type "BaseException") = true)
    (hm : (Value.ref C :: bm).contains (.ref C') = true) (hq : Q true ⟨h, g, d, t, os⟩) : wpAny M A (excMatches (.ref e) (.ref C')) Q E ⟨h, g, d, t, os⟩ := by
  have hcB : (Value.ref C' :: bm').contains (.type "BaseException") = true := by rw [List.contains_cons, hbase, Bool.or_true]
  have f := tc_notTuple
  unfold excMatches
  repeat (first | (with_reducible refine wpAny_loadPart_at he ?_; rw [hcls]) | with_reducible refine wpAny_loadPart_at hC' ?_ | (with_reducible refine wpAny_isSubtype_exc hC' ?_; rw [hcB]) | (with_reducible refine wpAny_isSubtype_exc hC ?_; rw [hm]) | wp_step)
  exact hq
end
end L2

set_option Elab.async false
set_option linter.all false
set_option maxRecDepth 100000
set_option maxHeartbeats 4000000
namespace L2
open PySem PySem.Spec PyProof.Rows

abbrev TW := St → Hp → Addr → Option Addr → Prop
/-- the context of a try's body: W is what must hold where an exception comes out of it -/
abbrev tryCx (X : Cx) (pins : List (Addr × Obj)) (W : TW) : Cx := { X with pn := X.pn ++ pins, xe := fun ev s' => ∃ e C dx σ H, ev = .ref e ∧ Arr X pins σ H s' e C dx ∧ W σ H C dx }
/-- the context of an except suite -/
abbrev hdCx (X : Cx) (pins : List (Addr × Obj)) (e : Addr) : Cx := { X with pn := X.pn ++ pins, A := X.A.mark (some (.ref e)), calm := false, xe := fun _ _ => False }

section
variable {X : Cx} {pins pins' : List (Addr × Obj)} {σ : St} {H : Hp} {s : Shared} {W : TW} {e : Addr}
theorem ok_try (ok : X.Ok) : (tryCx X pins W).Ok :=
  ⟨ok.mod, ok.kind, ok.glob, ok.blt, ok.above, ok.inj, ok.has, ok.cab, ok.hd, ok.frames, ok.stk, ok.exf, ok.bs, ok.bsz, ok.noex, ok.exfs, ok.funs, ok.frf⟩
theorem ok_untry (ok : (tryCx X pins W).Ok) : X.Ok :=
  ⟨ok.mod, ok.kind, ok.glob, ok.blt, ok.above, ok.inj, ok.has, ok.cab, ok.hd, ok.frames, ok.stk, ok.exf, ok.bs, ok.bsz, ok.noex, ok.exfs, ok.funs, ok.frf⟩
theorem ok_hd (ok : X.Ok) : (hdCx X pins e).Ok :=
  ⟨ok.mod, ok.kind, ok.glob, ok.blt, ok.above, ok.inj, ok.has, ok.cab, (fun z => nomatch z), ok.frames, ok.stk, ok.exf, ok.bs, ok.bsz, ok.noex, ok.exfs, ok.funs, ok.frf⟩
theorem Inv.try_ (I : Inv X pins σ H s) : Inv (tryCx X pins W) [] σ H s :=
  ⟨ok_try I.ok, I.os, I.bare, I.base, I.loc, I.cell, I.free, I.freeC, fun p hp => I.pin p (by simpa using hp), I.hok, I.len⟩
theorem Inv.untry (I : Inv (tryCx X pins W) pins' σ H s) : Inv X pins σ H s :=
  ⟨ok_untry I.ok, I.os, I.bare, I.base, I.loc, I.cell, I.free, I.freeC, fun p hp => I.pin p (List.mem_append_left _ hp), I.hok, I.len⟩
theorem Inv.hd_ (I : Inv X pins σ H s) (e : Addr) : Inv (hdCx X pins e) [] σ H s :=
  ⟨ok_hd I.ok, I.os, I.bare, I.base, I.loc, I.cell, I.free, I.freeC, fun p hp => I.pin p (by simpa using hp), I.hok, I.len⟩
theorem Inv.unhd (ok : X.Ok) (I : Inv (hdCx X pins e) pins' σ H s) : Inv X pins σ H s :=
  ⟨ok, I.os, I.bare, I.base, I.loc, I.cell, I.free, I.freeC, fun p hp => I.pin p (List.mem_append_left _ hp), I.hok, I.len⟩
theorem xok_try (hex : X.ex = []) : XOk (tryCx X pins W) (fun σ c dx H => ∃ C, c = .ref C ∧ W σ H C dx) := by
  refine ⟨fun pins' σ H s e C dx a h => ?_, .inl hex⟩
  obtain ⟨C', z, hW⟩ := h
  cases z
  obtain ⟨I, n, T, F, nT⟩ := a
  have drop : ∀ b, New (tryCx X pins W) pins' H b → New X pins H b := fun b z => ⟨z.1, z.2.1, fun p hp => z.2.2 p (List.mem_append_left _ hp)⟩
  exact ⟨e, C, dx, σ, H, rfl, ⟨I.untry, drop e n, T, F, fun t z => drop t (nT t z)⟩, hW⟩
end

/-- try: body / except C0 as n: suite -/
def tTry (tb : TW → TS) (sub : Addr → Prop) (i : Nat) (th : TS) : TS := fun D σ H => ∃ W : TW, tb W D σ H ∧
  ∀ σ' H' C dx, W σ' H' C dx → sub C ∧ ∀ e, H' e = none → th { nx := fun σ2 H2 => D.nx (σ2.set i none) H2, rt := D.rt, bk := fun σ2 H2 => D.bk (σ2.set i none) H2, ct := fun σ2 H2 => D.ct (σ2.set i none) H2 } (σ'.set i (some (.ref e))) (upd H' e (excO e C dx))

/-- the class C of the text is C0 or stands under it -/
def subX (K : PySem.W.Frag) (C C0 : Addr) : Bool := match K.lookup C with
  | some ⟨_, _, .cls cd, _⟩ => cd.mro.contains (.ref C0)
  | _ => false

/-- a class of exceptions of the text, whatever its __init__ -/
def excAny (K : PySem.W.Frag) (C : Addr) : Bool := match K.lookup C with
  | some ⟨.type "type", _, .cls cd, sl⟩ => (match cd.mro, sl.toList with
    | .ref C' :: bm, [_, _, _, _, some (.builtin n), _] => C' == C && n == "ValueError.__new__" && !cd.hasDel && bm.contains (.type "BaseException")
    | _, _ => false)
  | _ => false
theorem excAny_obj {K : PySem.W.Frag} {h : Heap} {C : Addr} (q : excAny K C = true) (X : K.In h) :
    ∃ bm N nm qn bs hdct sn sub ab col dd k0 k1 k2 k3 k5, h.get? C = some (PySem.excClassObj nm qn C N bs bm hdct sn sub ab col dd k0 k1 k2 k3 k5 "ValueError.__new__") ∧ bm.contains (.type "BaseException") = true ∧
      ∀ C0, subX K C C0 = true → (Value.ref C :: bm).contains (.ref C0) = true := by
  unfold excAny at q
  split at q
  · rename_i dd cd sl ho
    split at q
    · rename_i C' bm k0 k1 k2 k3 nb k5 hm hs
      simp only [Bool.and_eq_true, beq_iff_eq, Bool.not_eq_true'] at q
      obtain ⟨⟨⟨rfl, rfl⟩, hdel⟩, hb⟩ := q
      obtain ⟨nm, bs, mr, ns, qn, hd, sn, sub, ab, col, dl⟩ := cd
      dsimp only at hm hdel
      subst hm hdel
      have hsl : sl = #[k0, k1, k2, k3, some (.builtin "ValueError.__new__"), k5] := by
        obtain ⟨l⟩ := sl
        simp only at hs
        rw [hs]
      subst hsl
      refine ⟨bm, ns, nm, qn, bs, hd, sn, sub, ab, col, dd, k0, k1, k2, k3, k5, X _ _ ho, hb, fun C0 h0 => ?_⟩
      unfold subX at h0
      rw [ho] at h0
      exact h0
    · cases q
  · cases q

section
variable {X : Cx} {C0 : Addr} {x n : Str} {np hpos pos : Pos} {body suite : List Stmt} {b0 : Stmt} {tb : TW → TS} {th : TS} {i : Nat}
theorem ps_try (hC0 : excAny X.K C0 = true) (hst : X.stack = X.env :: X.outer ∧ X.env.frame = some X.env.locals) (hex : X.ex = []) (hN : X.N.Nodup) (hi : X.N[i]? = some n) (hln : X.env.scope.names.lookup n = some .local)
    (hg : Gl X x) (hm : X.mg x = some (.ref C0)) (hb : ∀ pins W, PSs (tryCx X pins W) body (tb W)) (hh : ∀ pins e, PSs (hdCx X pins e) (b0 :: suite) th) (hdb : (x == ("__debug__" : Str)) = false := by decide) :
    PS X (.Try body [.ExceptHandler (some (.Name x np)) (some n) (b0 :: suite) hpos] [] [] pos) (tTry tb (fun C => excAny X.K C = true ∧ subX X.K C C0 = true) i th) := by
  intro pins s σ H D I h
  obtain ⟨W, hbd, hhd⟩ := h
  refine wpAny_Try_except (wpAny_mono (hb pins W [] s σ H D I.try_ hbd) (fun f s1 q => ?_) (fun ev s1 q => ?_))
  · cases f with
    | next =>
      obtain ⟨σ', H', I', z⟩ := q
      exact wpAny_execs_nil ⟨σ', H', I'.untry, z⟩
    | brk => obtain ⟨σ', H', I', z⟩ := q; exact ⟨σ', H', I'.untry, z⟩
    | cont => obtain ⟨σ', H', I', z⟩ := q; exact ⟨σ', H', I'.untry, z⟩
    | ret u => obtain ⟨v, σ', H', I', r, z⟩ := q; exact ⟨v, σ', H', I'.untry, r, z⟩
  · obtain ⟨e, C, dx, σ1, H1, rfl, ⟨I1, n1, T, F1, nT⟩, hW⟩ := q
    obtain ⟨⟨hCx, hsub⟩, hth⟩ := hhd σ1 H1 C dx hW
    have fe : ∀ {h : Heap} {T : Option Addr} {fl : Value}, Fly h e (.ref C) dx T fl → ∃ o vs, h.get? e = some o ∧ o.data = .fields vs := fun F => let ⟨o, vs, a, _, _, b, _⟩ := F.ob; ⟨o, vs, a, b⟩
    have fT : ∀ {h : Heap} {T : Option Addr} {fl : Value}, Fly h e (.ref C) dx T fl → ∀ t, T = some t → ∃ o vs, h.get? t = some o ∧ o.data = .fields vs := fun F t z => let ⟨_, o, vs, a, b, _⟩ := F.tr t z; ⟨o, vs, a, b⟩
    have hfr : X.A.frames = some (X.env :: X.outer) := by rw [I1.ok.frames, hst.1]
    have hfun : s1.heap.FunFrames X.base (X.env :: X.outer) := by have z := I1.stack; rw [hst.1] at z; exact z
    refine note_ok hfr hfun hst.2 F1 fun h2 t ht F2 k2 => ?_
    have I2 : Inv X pins σ1 H1 { s1 with heap := h2 } := I1.fly (t' := s1.toks) hex n1 nT (fe F1) (fT F1) (by rw [hst.1]; exact k2)
    have nt : New X pins H1 t := ⟨Heap.get?_none_of_le (Nat.le_trans I1.sz ht), I1.hok.fresh ht, fun p hp z => absurd (Heap.lt_size (I1.pin p hp).1) (by rw [z]; exact Nat.not_lt.mpr ht)⟩
    have nt' : ∀ t', some t = some t' → New X pins H1 t' := fun t' z => by obtain rfl := Option.some.inj z; exact nt
    have turn : ∀ {h h' : Heap}, (∀ b, b ≠ t → h'.get? b = h.get? b) → KeepBut (frs X.stack) e (some t) h h' := fun k b o q _ hbt =>
      have z := (k b (fun z => hbt (congrArg some z.symm))).trans q
      ⟨fun _ => z, o.slots, z⟩
    refine flight_ok F2 fun h3 F3 k3 => ?_
    have I3 : Inv X pins σ1 H1 { s1 with heap := h3 } := I2.fly (t' := s1.toks) hex n1 nt' (fe F2) (fT F2) (turn k3)
    refine wpAny_handleBy_cons (codeAny_handlers_test (ld_glob (X := hdCx X pins e) (I3.hd_ e) hg hm ?_ hdb)) (by intro q; cases q)
    obtain ⟨bm, N, nm, qn, bs, hdct, sn, sub, ab, col, dd, k0, k1, k2', k3', k5, oC, hbm, hs⟩ := excAny_obj hCx I3.kIn
    obtain ⟨bm', N', nm', qn', bs', hdct', sn', sub', ab', col', dd', k0', k1', k2'', k3'', k5', oC', hbm', hs'⟩ := excAny_obj hC0 I3.kIn
    obtain ⟨⟨oe, vs, he, hcls, hdx, hdt, _⟩, _⟩ := id F3
    refine match_ok oC oC' he hcls hbm' (hs C0 hsub) (codeAny_handlers_suite_as ?_)
    refine flight_ok F3 fun h4 F4 k4 => ?_
    have I4 : Inv X pins σ1 H1 { s1 with heap := h4 } := I3.fly (t' := s1.toks) hex n1 nt' (fe F3) (fT F3) (turn k4)
    refine store_ok2 (X := hdCx X pins e) (v := .ref e) (u := .ref e) (I4.hd_ e) hN hi (.inl hln) rfl (fun s5 I5 hsame => ?_) (.inr hln)
    have F5 : Fly s5.heap e (.ref C) dx (some t) .none := by
      obtain ⟨a, sb, ha⟩ := hsame
      have kf : ∀ b o vs, h4.get? b = some o → o.data = .fields vs → s5.heap.get? b = some o := fun b o vs q hd => by
        refine (sb.2 b fun z => ?_).trans q
        rcases ha with ha | ha
        · obtain ⟨m, ⟨o', es, ep, ho', hd', _⟩, _⟩ := id I4.loc
          have ho'' : h4.get? a = some o' := by rw [ha]; exact ho'
          rw [← z, q] at ho''; cases ho''; rw [hd] at hd'; cases hd'
        · obtain ⟨v, o', ho', hd'⟩ := I4.cell n a ha
          have ho'' : h4.get? a = some o' := ho'
          rw [← z, q] at ho''; cases ho''; rw [hd] at hd'; cases hd'
      obtain ⟨⟨oe, vs, a1, a2, a3, a4, a5⟩, b⟩ := F4
      refine ⟨⟨oe, vs, kf _ _ _ a1 a4, a2, a3, a4, a5⟩, fun t' z => ?_⟩
      obtain ⟨b1, oT, ts, b2, b3, b4⟩ := b t' z
      exact ⟨b1, oT, ts, kf _ _ _ b2 b3, b3, b4⟩
    have ne5 : New (hdCx X pins e) [] H1 e := ⟨n1.1, n1.2.1, fun p hp => n1.2.2 p (by simpa using hp)⟩
    have I6 := I5.track ne5 (fe F5) (excO_ok (P := X.prog) (w := X.w) (H := upd H1 e (excO e C dx)) F5)
    refine wpAny_mono (hh pins e [] s5 _ _ _ I6 (hth e n1.2.1)) (fun f s7 q => ?_) (fun x s7 z => z.elim)
    have un : ∀ {σ' : St} {H' : Hp}, Inv (hdCx X pins e) [] σ' H' s7 → Inv X pins σ' H' s7 := fun J => J.unhd I4.ok
    cases f with
    | next => obtain ⟨σ', H', I', z⟩ := q; exact name_goes (un I') hN hi hln fun s8 I8 => ⟨_, _, I8, z⟩
    | brk => obtain ⟨σ', H', I', z⟩ := q; exact name_goes (un I') hN hi hln fun s8 I8 => ⟨_, _, I8, z⟩
    | cont => obtain ⟨σ', H', I', z⟩ := q; exact name_goes (un I') hN hi hln fun s8 I8 => ⟨_, _, I8, z⟩
    | ret u => obtain ⟨v, σ', H', I', r, z⟩ := q; exact name_goes (un I') hN hi hln fun s8 I8 => ⟨v, _, _, I8, r, z⟩
end

/-! ### defs that may be called from an except suite -/
structure RoomM (k : Nat) (A : Around) : Prop where
  dp : A.depth + 3 * k + 5 < recursionLimit
  un : A.units + 16 * k + 200 < cLine
  gd : A.guards = some []
theorem RoomM.deeper {k : Nat} {A : Around} (r : RoomM (k + 1) A) (env : Env) : RoomM k (A.deeper env) :=
  ⟨by have := r.dp; show A.depth + 1 + 3 * k + 5 < _; omega, by have := r.un; show A.units + 3 + 16 * k + 200 < _; omega, r.gd⟩
theorem Room.m {k : Nat} {A : Around} (r : Room k A) : RoomM k A := ⟨r.dp, r.un, r.gd⟩
theorem RoomM.mark {k : Nat} {A : Around} (r : RoomM k A) (v : Option Value) : RoomM k (A.mark v) := ⟨r.dp, r.un, r.gd⟩
theorem RoomM.depth {k : Nat} {A : Around} (r : RoomM k A) : A.depth < recursionLimit := by have := r.dp; omega
structure FnM (P : Program) (w : World) (K : PySem.W.Frag) (mg : Str → Option Value) (base : Heap) (CX : CXT) (k : Nat) (f : Addr) (fd : FuncData) (ps : List Str) (sp : Sp) : Prop where
  len : ∀ vs H Q E, sp vs H Q E → vs.length = ps.length
  run : ∀ (A : Around) (outer : List Env) (s : Shared) (H : Hp) (args : Args) (us : List Value) (vs : List V) (Q : VK) (E : XK), RoomM k A → Env0 P w K mg base A outer s H → BindsTo s fd args (ps.zip us) → Vals vs us → sp vs H Q E →
    codeAny (model P w) A (.call (.ref f) args) (CR CX outer P w H s Q E) s
abbrev cxM (X : Cx) : Cx := { X with calm := false }
theorem Fun.okM {P : Program} {w : World} {K : PySem.W.Frag} {mg : Str → Option Value} {base : Heap} {x qual : Str} {st : Stmt} {f : Addr} {fd : FuncData} {N ps : List Str} {k : Nat} {sp : Sp} (F : Fun K x qual st f fd) (S : FnScope N ps (defScope st)) (len : ∀ vs H Q E, sp vs H Q E → vs.length = ps.length)
    (hbody : ∀ (cdv : Value) (A : Around) (outer : List Env) (s : Shared) (H : Hp) (vs : List V) (Q : VK) (E : XK), RoomM k (A.deeper (envOfC qual (defScope st) s.heap.objs.size f cdv)) → sp vs H Q E →
      ∃ t, PSs (cxM (cxOf (CXr P w) P w K mg base N qual (defScope st) f cdv A outer s H E)).nox (defBody st) t ∧ t { nx := fun _ H' => Q .non H', rt := Q } (start N vs) H) : FnM P w K mg base (CXr P w) (k + 1) f fd ps sp := by
  obtain ⟨oc, od, kV, doc, pm, an, cdv, ct, osl, rfl, lk, hcd⟩ := F.ex
  refine ⟨len, fun A outer s H args us vs Q E hr e0 hb r hsp => ?_⟩
  have hl := len _ _ _ _ hsp
  have KX : K.In s.heap := e0.mod.kin.keeps fun b o e => (e0.bs b o e).1
  have lim : s.heap.NoLimit := e0.mod.nolimit.keeps fun b o e => (e0.bs b o e).1
  have hkind : ∀ y ∈ ps.zip us, (defScope st).names.lookup y.1 = some .local ∨ ((defScope st).names.lookup y.1 = some .cell ∧ ((cellsFrom (s.heap.objs.size + 1) (defScope st).names []).lookup y.1).isSome = true) := fun ⟨n, v⟩ hy => by
    rcases S.par n (List.of_mem_zip hy).1 with q | q
    · exact .inl q
    · exact .inr ⟨q, PySem.W.cellsFrom_some _ _ _ (.inl q)⟩
  refine codeAny_call_function hr.depth (KX _ _ lk) rfl S.co S.gen rfl (PySem.W.codeRec_of KX hcd) (hb _ _ _ _ ?_)
  refine wpAny_newFunctionEnv_cells S.kind hkind fun env he s1 x => ?_
  subst he
  refine ⟨lim.keeps x.toInCall.keep, codeAny_func ?_⟩
  obtain ⟨t, ht, hq⟩ := hbody cdv A outer s H vs Q E (hr.deeper _) hsp
  have e1 : Env0 P w K mg base { A with handled := none } outer s H := ⟨e0.frames, e0.mod, e0.bs, e0.bsz, e0.funs, e0.frf, e0.hok, e0.bare⟩
  have I0 : Inv (cxOf (CXr P w) P w K mg base N qual (defScope st) f cdv { A with handled := none } outer s H E) [] (start N vs) H s1 := inv_start S rfl e1 hl r x
  have I : Inv (cxM (cxOf (CXr P w) P w K mg base N qual (defScope st) f cdv A outer s H E)) [] (start N vs) H s1 :=
    ⟨⟨I0.ok.mod, I0.ok.kind, I0.ok.glob, I0.ok.blt, I0.ok.above, I0.ok.inj, I0.ok.has, I0.ok.cab, (fun z => nomatch z), Around.frames_deeper e0.frames, I0.ok.stk, I0.ok.exf, I0.ok.bs, I0.ok.bsz, I0.ok.noex, I0.ok.exfs, I0.ok.funs, I0.ok.frf⟩,
      I0.os, I0.bare, I0.base, I0.loc, I0.cell, I0.free, I0.freeC, I0.pin, I0.hok, I0.len⟩
  refine wpAny_mono (ht.nox [] s1 (start N vs) H _ I hq) (fun fl s' hs => ?_) fun e s' hs => hs
  have fin : ∀ {σ' : St} {H' : Hp} {v : V} {u : Value}, Inv (cxM (cxOf (CXr P w) P w K mg base N qual (defScope st) f cdv A outer s H E)) [] σ' H' s' → RelV v u → Q v H' → CE outer P w H s Q u s' :=
    fun {σ' H' v u} J rv q => ⟨v, H', J.os, J.bare, J.base, J.hok, rv, q⟩
  cases fl with
  | ret u =>
    obtain ⟨v, σ', H', J, rv, q⟩ := hs
    exact fin J rv q
  | next =>
    obtain ⟨σ', H', J, q⟩ := hs
    exact fin (v := V.non) (u := Value.none) J rfl q
  | brk =>
    obtain ⟨_, _, _, q⟩ := hs
    exact False.elim q
  | cont =>
    obtain ⟨_, _, _, q⟩ := hs
    exact False.elim q
section
variable {X : Cx} {k : Nat} {f C : Addr} {fd : FuncData} {ps : List Str} {sp : Sp} {dvs : List V} {ds : List Value} {x m : Str} {p pos apos : Pos} {e o : Expr} {es : List Expr} {ta : TE} {t : TA}
theorem pe_callM (F : FnM X.prog X.w X.K X.mg X.base (CXr X.prog X.w) k f fd ps sp) (hr : RoomM k X.A) (hg : Gl X x) (hm : X.mg x = some (.ref f)) (hk : PySem.W.keepIn X.K (.ref f) = true) (hb : Binds X.K fd ps ds) (hd : Vals dvs ds)
    (ha : PA X (e :: es) t) (hdb : (x == ("__debug__" : Str)) = false := by decide) (he : starEach (e :: es) X.env = (false, eval e X.env) :: starEach es X.env := by rfl) (hpl : (backTo pos (starEach es X.env)).any (·.1) = false := by rfl) :
    PE X (.Call (.Name x p) (e :: es) [] pos) (tCallX sp dvs E00 t) := by
  intro pins s σ H Q I h
  refine wpAny_Call_Name_kw (ld_glob I hg hm ?_ hdb)
  refine PySem.W.callWith_K (h₀ := X.base) I.ok.mod.kin hk (thn (ha pos pins s σ H _ I h) fun us s1 ⟨vs, H1, I1, r, q⟩ => ⟨I1.kIn, ?_⟩) he hpl
  have r2 : Vals (vs ++ dvs) (us ++ ds) := r.append hd
  have hl : (us ++ ds).length = ps.length := by rw [← r2.length]; exact F.len _ _ _ _ q
  refine wpAny_call (codeAny_mono (F.run X.A X.stack s1 H1 ⟨us, []⟩ (us ++ ds) (vs ++ dvs) Q (E00 σ) hr I1.env0 (hb s1 us I1.kIn hl) r2 q) fun r s' hq => ?_)
  cases r with
  | error e => exact xok_pass (X := X) xok0 I1 hq
  | ok fl =>
    cases fl with
    | ret u => exact I1.after hq
    | next => exact False.elim hq
    | brk => exact False.elim hq
    | cont => exact False.elim hq
end
end L2

set_option Elab.async false
set_option linter.all false
set_option maxRecDepth 100000
set_option maxHeartbeats 4000000
namespace L2
open PySem PySem.Spec PyProof.Rows

/-! ### attributes of an exception of the text's own classes -/
section
variable {prog : Program} {w : World} {A : Around} {E : Value → Shared → Prop} {s : Shared} {K : PySem.W.Frag} {x C : Addr} {ox : Obj} {od : Option Obj} {name : Str}
/-- what a class of exceptions must have for its attributes to be read -/
structure XGet (K : PySem.W.Frag) (C : Addr) : Prop where
  ga : PySem.W.findIn K (.ref C) "__getattribute__" = some (some (.builtin "BaseException.__getattribute__"))
  gn : PySem.W.findIn K (.ref C) "__getattr__" = some none
  mB : PySem.W.mroIn K C (.type "BaseException") = some true
theorem xget_check (X : K.In s.heap) (I : PySem.W.InstAt s.heap x ox C od) (hmB : PySem.W.mroIn K C (.type "BaseException") = some true) {nameV : Value} {Q : Unit → Shared → Prop} (hq : Q () s) :
    wpAny (model prog w) A (checkBuiltinCall "BaseException.__getattribute__" ⟨[.ref x, nameV], []⟩) Q E s := by
  obtain ⟨h, g, d, t, os⟩ := s
  have kd : builtinKind "BaseException.__getattribute__" = some .slot := by decide +kernel
  have sd : splitId "BaseException.__getattribute__" = some ("BaseException", "__getattribute__") := by decide +kernel
  have ha := F.args_bexc_ga (.ref x) nameV
  have ty0 := I.type (M := model prog w)
  have mr1 := PySem.W.looks_mroIn (M := model prog w) X hmB
  have LI : PySem.W.Looks (model prog w) h (isInstance (.ref x) (.type "BaseException")) true := ty0.andThen mr1
  simp only [checkBuiltinCall, kd, sd]
  refine wpAny_bind (LI.at ?_)
  repeat (any_goals (first | assumption | wp_step))
theorem xget_by (G : XGet K C) (X : K.In s.heap) (I : PySem.W.InstAt s.heap x ox C od) {tk : Tok} {fill expr : Bool} {v : Value} (hf : ∀ {A' : Around} {Q : Fin → Shared → Prop}, Q (.done (.ret v)) s → wpAny (model prog w) A' (Builtin.«object.__getattribute__» ⟨[.ref x, .str name tk], []⟩) Q (fun _ _ => False) s)
    (hv : PySem.W.handedIn v = true) {Q : Value → Shared → Prop} (hq : Q v s) : wpAny (model prog w) A (getAttrBy (.ref x) (.str name tk) fill expr) Q E s := by
  obtain ⟨h, g, d, t, os⟩ := s
  have ty0 := I.type (M := model prog w)
  have fa1 := PySem.W.looks_findIn (M := model prog w) X G.ga
  have L2 := PySem.W.looks_findIn (M := model prog w) X G.gn
  have y0 : (expr && onTheHeap (Value.builtin "BaseException.__getattribute__")) = false := by cases expr <;> rfl
  have y2 : (Value.builtin "BaseException.__getattribute__" == Value.builtin "object.__getattribute__") = false := by decide +kernel
  have y1 : (onTheHeap (Value.ref C) && Value.builtin "BaseException.__getattribute__" == Value.builtin "object.__getattribute__") = false := by rw [y2]; rfl
  have f3 := F.excAttr_ValueError.ga.bind (.ref x)
  unfold getAttrBy
  refine wpAny_holding (wpAny_bind (ty0.at (wpAny_bind (fa1.at ?_))))
  dsimp only
  rw [if_neg (by rw [y1]; exact Bool.false_ne_true)]
  unfold getAttrByItsOwn hookBefore
  refine wpAny_bind (L2.at ?_)
  unfold callGetattribute
  rw [if_neg (by rw [y0]; exact Bool.false_ne_true)]
  refine wpAny_bind (wpAny_attempt (wpAny_holding (?_)))
  unfold boundAndCalled
  refine wpAny_bind (wpAny_of_eq f3 ?_)
  dsimp only
  refine wpAny_call (codeAny_call_builtin F.excAttr_ValueError.ga.plain F.entry_bexc_ga (xget_check X I G.mB ?_))
  refine wpAny_mono (hf (Q := fun fin s' => fin = .done (.ret v) ∧ s' = ⟨h, g, d, t, os⟩) ⟨rfl, rfl⟩) (fun fin s' z => ?_) (fun _ _ z => z.elim)
  obtain ⟨rfl, rfl⟩ := z
  exact PySem.W.handed_on hv hq
theorem xfind_bind {tk : Tok} {g a v : Value} (X : K.In s.heap) (I : PySem.W.InstAt s.heap x ox C od) (hf : PySem.W.findObj K C od name = some (.bind g a))
    (hc : ∀ {R : Result → Shared → Prop}, R (.ok (.ret v)) s → codeAny (model prog w) A (.call g ⟨[a, .ref x, .ref C], []⟩) R s) {Q : Fin → Shared → Prop} (hq : Q (.done (.ret v)) s) :
    wpAny (model prog w) A (Builtin.«object.__getattribute__» ⟨[.ref x, .str name tk], []⟩) Q E s := by
  obtain ⟨h, gg, d, t, os⟩ := s
  have ty0 := I.type (M := model prog w)
  have L1 := PySem.W.looks_find (M := model prog w) X I hf
  unfold Builtin.«object.__getattribute__»
  refine wpAny_bind (wpAny_pure ?_)
  refine wpAny_bind (wpAny_pure ?_)
  refine wpAny_bind (ty0.at (wpAny_bind (L1.at ?_)))
  show wpAny _ _ (Builtin.ObjectAttr.bindTo g a (.ref x) (.ref C)) _ _ _
  unfold Builtin.ObjectAttr.bindTo
  refine wpAny_bind (wpAny_holding (wpAny_call (hc ?_)))
  exact wpAny_pure hq
/-- e.__class__, as isinstance asks it -/
structure XClass (K : PySem.W.Frag) (C : Addr) : Prop extends XGet K C where
  cls : (PySem.W.clsIn K C).isSome = true
  ha : PySem.W.findIn K (.ref C) "__class__" = some (some (.builtin "object.__class__"))
  hn : PySem.W.specialIn K (.builtin "object.__class__") "__get__" = some (some (.builtin "getset_descriptor.__get__"))
  htk : PySem.W.takesIn K (.builtin "object.__class__") = some true
  mO : PySem.W.mroIn K C (.type "object") = some true
theorem xfindObj_data {a g : Value} (hc : (PySem.W.clsIn K C).isSome = true) (ha : PySem.W.findIn K (.ref C) name = some (some a)) (hg : PySem.W.specialIn K a "__get__" = some (some g)) (ht : PySem.W.takesIn K a = some true) : PySem.W.findObj K C od name = some (.bind g a) := by
  obtain ⟨cd, hc⟩ := Option.isSome_iff_exists.mp hc
  unfold PySem.W.findObj
  rw [hc, Option.bind_some, ha, Option.bind_some]
  simp [hg, ht]
theorem kitx_exc (G : XClass K C) : PySem.W.KitX K (.ref x) (.ref C) (fun h => PySem.W.InstAt h x ox C od) where
  ty := fun _ _ _ I => I.type
  it := fun _ _ X _ => by
    obtain ⟨cdD, hcD⟩ := Option.isSome_iff_exists.mp G.cls
    unfold PySem.W.clsIn at hcD
    split at hcD
    · rename_i c' d' cd' sl' ho
      intro A' Q' E' s' k q
      unfold isType loadHead
      exact wpAny_bind (wpAny_loadPart (k _ _ (X _ _ ho)) (wpAny_pure q))
    · cases hcD
  ne := fun h tp dd its n sl X htp => by
    obtain ⟨cdD, hcD⟩ := Option.isSome_iff_exists.mp G.cls
    refine Bool.eq_false_iff.mpr fun q => ?_
    have e : C = tp := Value.ref.inj (beq_iff_eq.mp q)
    subst e
    unfold PySem.W.clsIn at hcD
    split at hcD
    · rename_i c' d' cd' sl' ho
      have z := (X _ _ ho).symm.trans htp
      cases z
    · cases hcD
  ca := fun {prog w A E Q s} X I k => by
    unfold getAttr? getAttrBy?
    refine wpAny_bind (wpAny_mkText (wpAny_bind (wpAny_attempt ?_)))
    refine xget_by (s := { s with toks := s.toks + 1 }) (v := .ref C) G.toXGet X I (fun {A' Q'} hq => ?_) rfl (wpAny_pure k)
    exact xfind_bind (s := { s with toks := s.toks + 1 }) X I (xfindObj_data G.cls G.ha G.hn G.htk) (fun hr => PySem.W.class_get (s := { s with toks := s.toks + 1 }) X I G.mO hr) hq
end

/-! ### isinstance -/
section
variable {X : Cx}
def cV : V → Value
  | .ref a => .ref a
  | .ty n => .type n
  | _ => .none
theorem cV_of {c : V} {u : Value} (r : RelV c u) (h : cV c ≠ .none) : u = cV c := by
  cases c with
  | ref a => exact r
  | ty n => exact r
  | _ => exact absurd rfl h
/-- the type of a value: as the layer tells it; of an exception its class; of a list or tuple that is read -/
inductive TyX (K : PySem.W.Frag) (H : Hp) : V → Value → Prop where
  | of {v : V} {t : Value} (h : TyOf K H v t) : TyX K H v t
  | exc {e C : Addr} {dx : Option Addr} (h : H e = some (excO e C dx)) (g : XClass K C) (hd : dx = none) : TyX K H (.ref e) (.ref C)
  | sqL {a : Addr} {xs : List V} (h : SqL K H a xs) : TyX K H (.ref a) (.type "list")
  | sqT {a : Addr} {xs : List V} (h : SqT K H a xs) : TyX K H (.ref a) (.type "tuple")
def rIsi (K : PySem.W.Frag) : List V → Hp → VK → Prop := fun xs H Q => ∃ x c t b, xs = [x, c] ∧ TyX K H x t ∧ cV c ≠ .none ∧ PySem.W.kitOne K t (cV c) = some b ∧ Q (.bl b) H
theorem call_isi : CallR X (.builtin "isinstance") (rIsi X.K) := by
  intro pins s σ H xs us Q I r h
  obtain ⟨x, c, t, b, rfl, ty, hc, e, q⟩ := h
  obtain ⟨u1, u2, rfl, r1, r2⟩ : ∃ u1 u2, us = [u1, u2] ∧ RelV x u1 ∧ RelV c u2 := by
    cases r with
    | cons r1 r => cases r with
      | cons r2 r => cases r with
        | nil => exact ⟨_, _, rfl, r1, r2⟩
  rw [cV_of r2 hc]
  have fin : ∀ tk, EP X pins σ Q (.bool b) { s with toks := tk } := fun tk => ⟨.bl b, H, I.tok tk, rfl, q⟩
  cases ty with
  | of ty => exact isinst_ok I r1 ty e fin
  | @exc ea C dx hE g hd =>
    subst hd
    cases (show u1 = Value.ref ea from r1)
    obtain ⟨⟨oe, vs, he, hcl, hdx, hdt⟩, _⟩ := (show ObjOk X.prog X.w H s.heap ea (excO ea C none) from I.hok _ _ hE)
    have J : PySem.W.InstAt s.heap ea oe C none := ⟨he, hcl, by unfold PySem.W.notCls; rw [hdt], by rw [hdx]; trivial⟩
    exact PySem.W.kia_one (kitx_exc g) I.kIn J e (fun z => nomatch z) fin
  | @sqL a ys hS =>
    cases (show u1 = Value.ref a from r1)
    obtain ⟨its, _, ⟨o, n, h1, h2, _⟩, _⟩ := I.list hS
    exact PySem.W.kia_one PySem.W.kitx_list I.kIn ⟨o, h1, h2⟩ e (fun z => nomatch z) fin
  | @sqT a ys hS =>
    cases (show u1 = Value.ref a from r1)
    obtain ⟨its, _, ⟨o, h1, h2, _⟩, _⟩ := I.tuple hS
    exact PySem.W.kia_one PySem.W.kitx_tuple I.kIn ⟨o, h1, h2⟩ e (fun z => nomatch z) fin
end

/-! ### repr of data -/
section
variable {X : Cx}
def rRepr (K : PySem.W.Frag) : List V → Hp → VK → Prop := fun xs H Q => ∃ x d, xs = [x] ∧ Dp K H x d ∧ d.showable = true ∧ d.hasDict = false ∧ d.depth ≤ 20 ∧ d.shown.length ≤ sizeLine ∧ Q (.str d.shown) H
theorem call_repr (hg : X.A.guards = some []) (hu : X.A.units + 64 < cLine) : CallR X (.builtin "repr") (rRepr X.K) := by
  intro pins s σ H xs us Q I r h
  obtain ⟨x, d, rfl, hd, hs, hnd, hdep, hsz, q⟩ := h
  obtain ⟨u, rfl, ru⟩ := vals1 r
  obtain ⟨as, rd⟩ := Dp.reads I d x u hd ru
  have hsm : d.hasDict = true → sysModules ∉ as := fun z => by rw [hnd] at z; cases z
  cases hd with
  | non => cases ru; exact P.repr_of_none ⟨.str _, H, I.tok _, ⟨_, rfl⟩, q⟩
  | bl b => cases ru; exact P.repr_of_bool ⟨.str _, H, I.tok _, ⟨_, rfl⟩, q⟩
  | int i => obtain ⟨tk, rfl⟩ := ru; exact P.repr_of_int (of_decide_eq_true hs) ⟨.str _, H, I.tok _, ⟨_, rfl⟩, q⟩
  | str y => obtain ⟨tk, rfl⟩ := ru; exact P.repr_of_str ⟨.str _, H, I.tok _, ⟨_, rfl⟩, q⟩ hsz
  | lst _ _ =>
    cases ru
    exact repr_of_reads' rd hs hsm hg (by omega) (fun _ _ e => e) (fun h' u' tk hk => ⟨.str _, H, I.kept hk, ⟨_, rfl⟩, q⟩) hsz
  | tup _ _ =>
    cases ru
    exact repr_of_reads' rd hs hsm hg (by omega) (fun _ _ e => e) (fun h' u' tk hk => ⟨.str _, H, I.kept hk, ⟨_, rfl⟩, q⟩) hsz
end
end L2

set_option Elab.async false
set_option linter.all false
set_option maxRecDepth 100000
set_option maxHeartbeats 4000000
namespace M
open PySem PySem.Spec PyProof.Rows L2
def top (i : Nat) : Stmt := PySem.Challenge.pw_keytables_k01_sets_of_columns.main.body.getD i (.Pass ⟨0, 0, 0, 0⟩)
abbrev s_is_set : Stmt := top 24
abbrev p_is_set : List Str := ["thing"]
abbrev N_is_set : List Str := ["thing"]
theorem sc_is_set : FnScope N_is_set p_is_set (defScope s_is_set) := ⟨rfl, rfl, rfl, by decide +kernel, rfl, by decide +kernel, by decide +kernel⟩
abbrev s_both : Stmt := top 25
abbrev p_both : List Str := ["one", "other"]
abbrev N_both : List Str := ["one", "other", "column"]
theorem sc_both : FnScope N_both p_both (defScope s_both) := ⟨rfl, rfl, rfl, by decide +kernel, rfl, by decide +kernel, by decide +kernel⟩
abbrev s_either : Stmt := top 26
abbrev p_either : List Str := ["one", "other"]
abbrev N_either : List Str := ["one", "other"]
theorem sc_either : FnScope N_either p_either (defScope s_either) := ⟨rfl, rfl, rfl, by decide +kernel, rfl, by decide +kernel, by decide +kernel⟩
abbrev s_lacked : Stmt := top 27
abbrev p_lacked : List Str := ["one", "other"]
abbrev N_lacked : List Str := ["one", "other", "column"]
theorem sc_lacked : FnScope N_lacked p_lacked (defScope s_lacked) := ⟨rfl, rfl, rfl, by decide +kernel, rfl, by decide +kernel, by decide +kernel⟩
abbrev s_lies_in : Stmt := top 28
abbrev p_lies_in : List Str := ["one", "other"]
abbrev N_lies_in : List Str := ["one", "other"]
theorem sc_lies_in : FnScope N_lies_in p_lies_in (defScope s_lies_in) := ⟨rfl, rfl, rfl, by decide +kernel, rfl, by decide +kernel, by decide +kernel⟩
abbrev s_need_set : Stmt := top 29
abbrev p_need_set : List Str := ["thing"]
abbrev N_need_set : List Str := ["thing"]
theorem sc_need_set : FnScope N_need_set p_need_set (defScope s_need_set) := ⟨rfl, rfl, rfl, by decide +kernel, rfl, by decide +kernel, by decide +kernel⟩
abbrev s_set_of : Stmt := top 30
abbrev p_set_of : List Str := ["text"]
abbrev N_set_of : List Str := ["text", "column"]
theorem sc_set_of : FnScope N_set_of p_set_of (defScope s_set_of) := ⟨rfl, rfl, rfl, by decide +kernel, rfl, by decide +kernel, by decide +kernel⟩
abbrev s_is_within : Stmt := top 31
abbrev p_is_within : List Str := ["one", "other"]
abbrev N_is_within : List Str := ["one", "other", "column"]
theorem sc_is_within : FnScope N_is_within p_is_within (defScope s_is_within) := ⟨rfl, rfl, rfl, by decide +kernel, rfl, by decide +kernel, by decide +kernel⟩
abbrev s_cell_at : Stmt := top 33
abbrev p_cell_at : List Str := ["_law_script", "_law_k"]
abbrev N_cell_at : List Str := ["_law_script", "_law_k"]
theorem sc_cell_at : FnScope N_cell_at p_cell_at (defScope s_cell_at) := ⟨rfl, rfl, rfl, by decide +kernel, rfl, by decide +kernel, by decide +kernel⟩
abbrev s_state : Stmt := top 34
abbrev p_state : List Str := ["_law_script", "_law_k"]
abbrev N_state : List Str := ["_law_script", "_law_k", "_law_cell"]
theorem sc_state : FnScope N_state p_state (defScope s_state) := ⟨rfl, rfl, rfl, by decide +kernel, rfl, by decide +kernel, by decide +kernel⟩
abbrev s_choice : Stmt := top 35
abbrev p_choice : List Str := ["_law_state_here", "_law_many"]
abbrev N_choice : List Str := ["_law_state_here", "_law_many", "_law_found", "_law_mixed"]
theorem sc_choice : FnScope N_choice p_choice (defScope s_choice) := ⟨rfl, rfl, rfl, by decide +kernel, rfl, by decide +kernel, by decide +kernel⟩
abbrev s_same : Stmt := top 36
abbrev p_same : List Str := ["_law_found", "_law_due"]
abbrev N_same : List Str := ["_law_found", "_law_due"]
theorem sc_same : FnScope N_same p_same (defScope s_same) := ⟨rfl, rfl, rfl, by decide +kernel, rfl, by decide +kernel, by decide +kernel⟩
abbrev s_marks : Stmt := top 37
abbrev p_marks : List Str := ["_law_e"]
abbrev N_marks : List Str := ["_law_e", "_law_some"]
theorem sc_marks : FnScope N_marks p_marks (defScope s_marks) := ⟨rfl, rfl, rfl, by decide +kernel, rfl, by decide +kernel, by decide +kernel⟩
abbrev s_said : Stmt := top 38
abbrev p_said : List Str := ["_law_call"]
abbrev N_said : List Str := ["_law_call", "_law_found", "_law_e", "_law_marks_here", "_law_words"]
theorem sc_said : FnScope N_said p_said (defScope s_said) := ⟨rfl, rfl, rfl, by decide +kernel, rfl, by decide +kernel, by decide +kernel⟩
abbrev s_bits : Stmt := top 39
abbrev p_bits : List Str := ["_law_head_here", "_law_number"]
abbrev N_bits : List Str := ["_law_head_here", "_law_number", "_law_found", "_law_column"]
theorem sc_bits : FnScope N_bits p_bits (defScope s_bits) := ⟨rfl, rfl, rfl, by decide +kernel, rfl, by decide +kernel, by decide +kernel⟩
abbrev s_head : Stmt := top 40
abbrev p_head : List Str := ["_law_state_here"]
abbrev N_head : List Str := ["_law_state_here", "_law_way"]
theorem sc_head : FnScope N_head p_head (defScope s_head) := ⟨rfl, rfl, rfl, by decide +kernel, rfl, by decide +kernel, by decide +kernel⟩
abbrev s_pick : Stmt := top 41
abbrev p_pick : List Str := ["_law_state_here", "_law_head_here"]
abbrev N_pick : List Str := ["_law_state_here", "_law_head_here", "_law_few", "_law_turn", "_law_column"]
theorem sc_pick : FnScope N_pick p_pick (defScope s_pick) := ⟨rfl, rfl, rfl, by decide +kernel, rfl, by decide +kernel, by decide +kernel⟩
abbrev s_text_bent : Stmt := top 42
abbrev p_text_bent : List Str := ["_law_state_here", "_law_text"]
abbrev N_text_bent : List Str := ["_law_state_here", "_law_text", "_law_way", "_law_signs", "_law_at", "_law_sign", "_law_some"]
theorem sc_text_bent : FnScope N_text_bent p_text_bent (defScope s_text_bent) := ⟨rfl, rfl, rfl, by decide +kernel, rfl, by decide +kernel, by decide +kernel⟩
abbrev s_l_is_set : Stmt := top 43
abbrev p_l_is_set : List Str := ["_law_thing", "_law_head_here"]
abbrev N_l_is_set : List Str := ["_law_thing", "_law_head_here", "_law_sign"]
theorem sc_l_is_set : FnScope N_l_is_set p_l_is_set (defScope s_l_is_set) := ⟨rfl, rfl, rfl, by decide +kernel, rfl, by decide +kernel, by decide +kernel⟩
abbrev s_pair_right : Stmt := top 44
abbrev p_pair_right : List Str := ["_law_one", "_law_other"]
abbrev N_pair_right : List Str := ["_law_one", "_law_other", "_law_common", "_law_whole", "_law_alone", "_law_heard", "_law_column"]
theorem sc_pair_right : FnScope N_pair_right p_pair_right (defScope s_pair_right) := ⟨rfl, rfl, rfl, by decide +kernel, rfl, by decide +kernel, by decide +kernel⟩
abbrev s_refused_right : Stmt := top 45
abbrev p_refused_right : List Str := ["_law_bad", "_law_good"]
abbrev N_refused_right : List Str := ["_law_bad", "_law_good", "_law_calls", "_law_kept", "_law_call"]
theorem sc_refused_right : FnScope N_refused_right p_refused_right (defScope s_refused_right) := ⟨rfl, rfl, rfl, by decide +kernel, rfl, by decide +kernel, by decide +kernel⟩
abbrev s_law : Stmt := top 46
abbrev p_law : List Str := ["_law_script"]
abbrev N_law : List Str := ["_law_script", "_law_k", "_law_state_here", "_law_one", "_law_other", "_law_turn", "_law_bad", "_law_good"]
theorem sc_law : FnScope N_law p_law (defScope s_law) := ⟨rfl, rfl, rfl, by decide +kernel, rfl, by decide +kernel, by decide +kernel⟩
structure Adr where
  f_is_set : Addr
  d_is_set : FuncData
  f_both : Addr
  d_both : FuncData
  f_either : Addr
  d_either : FuncData
  f_lacked : Addr
  d_lacked : FuncData
  f_lies_in : Addr
  d_lies_in : FuncData
  f_need_set : Addr
  d_need_set : FuncData
  f_set_of : Addr
  d_set_of : FuncData
  f_is_within : Addr
  d_is_within : FuncData
  f_cell_at : Addr
  d_cell_at : FuncData
  f_state : Addr
  d_state : FuncData
  f_choice : Addr
  d_choice : FuncData
  f_same : Addr
  d_same : FuncData
  f_marks : Addr
  d_marks : FuncData
  f_said : Addr
  d_said : FuncData
  f_bits : Addr
  d_bits : FuncData
  f_head : Addr
  d_head : FuncData
  f_pick : Addr
  d_pick : FuncData
  f_text_bent : Addr
  d_text_bent : FuncData
  f_l_is_set : Addr
  d_l_is_set : FuncData
  f_pair_right : Addr
  d_pair_right : FuncData
  f_refused_right : Addr
  d_refused_right : FuncData
  f_law : Addr
  d_law : FuncData
  c_TableError : Addr
  c_NoSet : Addr
  c_NoBook : Addr
  c_NoHanging : Addr
  c_Unlike : Addr
  c_NoTable : Addr
  c_NoSplit : Addr
  c_NoRow : Addr
  c_NoColumn : Addr
  c_NoNumber : Addr
  c_NoGiven : Addr
  c_There : Addr
  c_Gone : Addr
  c_NoDeeds : Addr
  c_NoDeed : Addr
  c_NoText : Addr
  c_NoLine : Addr
  c_NoName : Addr
  c_TooWide : Addr
  c_TooMany : Addr
  c_Broken : Addr
  kc_refused_right : Addr
  kp_refused_right : Addr
structure Txt (K : PySem.W.Frag) (mg : Str → Option Value) (t : Adr) : Prop where
  m_is_set : mg "is_set" = some (.ref t.f_is_set)
  F_is_set : Fun K "is_set" "is_set" s_is_set t.f_is_set t.d_is_set
  b_is_set : L2.Binds K t.d_is_set p_is_set []
  m_both : mg "both" = some (.ref t.f_both)
  F_both : Fun K "both" "both" s_both t.f_both t.d_both
  b_both : L2.Binds K t.d_both p_both []
  m_either : mg "either" = some (.ref t.f_either)
  F_either : Fun K "either" "either" s_either t.f_either t.d_either
  b_either : L2.Binds K t.d_either p_either []
  m_lacked : mg "lacked" = some (.ref t.f_lacked)
  F_lacked : Fun K "lacked" "lacked" s_lacked t.f_lacked t.d_lacked
  b_lacked : L2.Binds K t.d_lacked p_lacked []
  m_lies_in : mg "lies_in" = some (.ref t.f_lies_in)
  F_lies_in : Fun K "lies_in" "lies_in" s_lies_in t.f_lies_in t.d_lies_in
  b_lies_in : L2.Binds K t.d_lies_in p_lies_in []
  m_need_set : mg "need_set" = some (.ref t.f_need_set)
  F_need_set : Fun K "need_set" "need_set" s_need_set t.f_need_set t.d_need_set
  b_need_set : L2.Binds K t.d_need_set p_need_set []
  m_set_of : mg "set_of" = some (.ref t.f_set_of)
  F_set_of : Fun K "set_of" "set_of" s_set_of t.f_set_of t.d_set_of
  b_set_of : L2.Binds K t.d_set_of p_set_of []
  m_is_within : mg "is_within" = some (.ref t.f_is_within)
  F_is_within : Fun K "is_within" "is_within" s_is_within t.f_is_within t.d_is_within
  b_is_within : L2.Binds K t.d_is_within p_is_within []
  m_cell_at : mg "_law_cell_at" = some (.ref t.f_cell_at)
  F_cell_at : Fun K "_law_cell_at" "_law_cell_at" s_cell_at t.f_cell_at t.d_cell_at
  b_cell_at : L2.Binds K t.d_cell_at p_cell_at []
  m_state : mg "_law_state" = some (.ref t.f_state)
  F_state : Fun K "_law_state" "_law_state" s_state t.f_state t.d_state
  b_state : L2.Binds K t.d_state p_state []
  m_choice : mg "_law_choice" = some (.ref t.f_choice)
  F_choice : Fun K "_law_choice" "_law_choice" s_choice t.f_choice t.d_choice
  b_choice : L2.Binds K t.d_choice p_choice []
  m_same : mg "_law_same" = some (.ref t.f_same)
  F_same : Fun K "_law_same" "_law_same" s_same t.f_same t.d_same
  b_same : L2.Binds K t.d_same p_same []
  m_marks : mg "_law_marks" = some (.ref t.f_marks)
  F_marks : Fun K "_law_marks" "_law_marks" s_marks t.f_marks t.d_marks
  b_marks : L2.Binds K t.d_marks p_marks []
  m_said : mg "_law_said" = some (.ref t.f_said)
  F_said : Fun K "_law_said" "_law_said" s_said t.f_said t.d_said
  b_said : L2.Binds K t.d_said p_said []
  m_bits : mg "_law_bits" = some (.ref t.f_bits)
  F_bits : Fun K "_law_bits" "_law_bits" s_bits t.f_bits t.d_bits
  b_bits : L2.Binds K t.d_bits p_bits []
  m_head : mg "_law_head" = some (.ref t.f_head)
  F_head : Fun K "_law_head" "_law_head" s_head t.f_head t.d_head
  b_head : L2.Binds K t.d_head p_head []
  m_pick : mg "_law_pick" = some (.ref t.f_pick)
  F_pick : Fun K "_law_pick" "_law_pick" s_pick t.f_pick t.d_pick
  b_pick : L2.Binds K t.d_pick p_pick []
  m_text_bent : mg "_law_text_bent" = some (.ref t.f_text_bent)
  F_text_bent : Fun K "_law_text_bent" "_law_text_bent" s_text_bent t.f_text_bent t.d_text_bent
  b_text_bent : L2.Binds K t.d_text_bent p_text_bent []
  m_l_is_set : mg "_law_is_set" = some (.ref t.f_l_is_set)
  F_l_is_set : Fun K "_law_is_set" "_law_is_set" s_l_is_set t.f_l_is_set t.d_l_is_set
  b_l_is_set : L2.Binds K t.d_l_is_set p_l_is_set []
  m_pair_right : mg "_law_pair_right" = some (.ref t.f_pair_right)
  F_pair_right : Fun K "_law_pair_right" "_law_pair_right" s_pair_right t.f_pair_right t.d_pair_right
  b_pair_right : L2.Binds K t.d_pair_right p_pair_right []
  m_refused_right : mg "_law_refused_right" = some (.ref t.f_refused_right)
  F_refused_right : Fun K "_law_refused_right" "_law_refused_right" s_refused_right t.f_refused_right t.d_refused_right
  b_refused_right : L2.Binds K t.d_refused_right p_refused_right []
  kc_refused_right : t.d_refused_right.code = .ref t.kc_refused_right
  kh_refused_right : PySem.W.codeHdIn K t.kc_refused_right t.kp_refused_right = true
  m_law : mg "law" = some (.ref t.f_law)
  F_law : Fun K "law" "law" s_law t.f_law t.d_law
  b_law : L2.Binds K t.d_law p_law []
  m_TableError : mg "TableError" = some (.ref t.c_TableError)
  x_TableError : excAny K t.c_TableError = true
  o_TableError : XCls K t.c_TableError
  g_TableError : XClass K t.c_TableError
  r_TableError : (PySem.W.clsIn K t.c_TableError).map (·.mro) = some [.ref t.c_TableError, .type "ValueError", .type "Exception", .type "BaseException", .type "object"]
  y_TableError : PySem.W.typeIn K (.ref t.c_TableError) = some (.type "type")
  m_NoSet : mg "NoSet" = some (.ref t.c_NoSet)
  x_NoSet : excAny K t.c_NoSet = true
  o_NoSet : XCls K t.c_NoSet
  g_NoSet : XClass K t.c_NoSet
  r_NoSet : (PySem.W.clsIn K t.c_NoSet).map (·.mro) = some [.ref t.c_NoSet, .ref t.c_TableError, .type "ValueError", .type "Exception", .type "BaseException", .type "object"]
  y_NoSet : PySem.W.typeIn K (.ref t.c_NoSet) = some (.type "type")
  m_NoBook : mg "NoBook" = some (.ref t.c_NoBook)
  x_NoBook : excAny K t.c_NoBook = true
  o_NoBook : XCls K t.c_NoBook
  g_NoBook : XClass K t.c_NoBook
  r_NoBook : (PySem.W.clsIn K t.c_NoBook).map (·.mro) = some [.ref t.c_NoBook, .ref t.c_TableError, .type "ValueError", .type "Exception", .type "BaseException", .type "object"]
  y_NoBook : PySem.W.typeIn K (.ref t.c_NoBook) = some (.type "type")
  m_NoHanging : mg "NoHanging" = some (.ref t.c_NoHanging)
  x_NoHanging : excAny K t.c_NoHanging = true
  o_NoHanging : XCls K t.c_NoHanging
  g_NoHanging : XClass K t.c_NoHanging
  r_NoHanging : (PySem.W.clsIn K t.c_NoHanging).map (·.mro) = some [.ref t.c_NoHanging, .ref t.c_TableError, .type "ValueError", .type "Exception", .type "BaseException", .type "object"]
  y_NoHanging : PySem.W.typeIn K (.ref t.c_NoHanging) = some (.type "type")
  m_Unlike : mg "Unlike" = some (.ref t.c_Unlike)
  x_Unlike : excAny K t.c_Unlike = true
  o_Unlike : XCls K t.c_Unlike
  g_Unlike : XClass K t.c_Unlike
  r_Unlike : (PySem.W.clsIn K t.c_Unlike).map (·.mro) = some [.ref t.c_Unlike, .ref t.c_TableError, .type "ValueError", .type "Exception", .type "BaseException", .type "object"]
  y_Unlike : PySem.W.typeIn K (.ref t.c_Unlike) = some (.type "type")
  m_NoTable : mg "NoTable" = some (.ref t.c_NoTable)
  x_NoTable : excAny K t.c_NoTable = true
  o_NoTable : XCls K t.c_NoTable
  g_NoTable : XClass K t.c_NoTable
  r_NoTable : (PySem.W.clsIn K t.c_NoTable).map (·.mro) = some [.ref t.c_NoTable, .ref t.c_TableError, .type "ValueError", .type "Exception", .type "BaseException", .type "object"]
  y_NoTable : PySem.W.typeIn K (.ref t.c_NoTable) = some (.type "type")
  m_NoSplit : mg "NoSplit" = some (.ref t.c_NoSplit)
  x_NoSplit : excAny K t.c_NoSplit = true
  o_NoSplit : XCls K t.c_NoSplit
  g_NoSplit : XClass K t.c_NoSplit
  r_NoSplit : (PySem.W.clsIn K t.c_NoSplit).map (·.mro) = some [.ref t.c_NoSplit, .ref t.c_TableError, .type "ValueError", .type "Exception", .type "BaseException", .type "object"]
  y_NoSplit : PySem.W.typeIn K (.ref t.c_NoSplit) = some (.type "type")
  m_NoRow : mg "NoRow" = some (.ref t.c_NoRow)
  x_NoRow : excAny K t.c_NoRow = true
  o_NoRow : XCls K t.c_NoRow
  g_NoRow : XClass K t.c_NoRow
  r_NoRow : (PySem.W.clsIn K t.c_NoRow).map (·.mro) = some [.ref t.c_NoRow, .ref t.c_TableError, .type "ValueError", .type "Exception", .type "BaseException", .type "object"]
  y_NoRow : PySem.W.typeIn K (.ref t.c_NoRow) = some (.type "type")
  m_NoColumn : mg "NoColumn" = some (.ref t.c_NoColumn)
  x_NoColumn : excAny K t.c_NoColumn = true
  o_NoColumn : XCls K t.c_NoColumn
  g_NoColumn : XClass K t.c_NoColumn
  r_NoColumn : (PySem.W.clsIn K t.c_NoColumn).map (·.mro) = some [.ref t.c_NoColumn, .ref t.c_TableError, .type "ValueError", .type "Exception", .type "BaseException", .type "object"]
  y_NoColumn : PySem.W.typeIn K (.ref t.c_NoColumn) = some (.type "type")
  m_NoNumber : mg "NoNumber" = some (.ref t.c_NoNumber)
  x_NoNumber : excAny K t.c_NoNumber = true
  o_NoNumber : XCls K t.c_NoNumber
  g_NoNumber : XClass K t.c_NoNumber
  r_NoNumber : (PySem.W.clsIn K t.c_NoNumber).map (·.mro) = some [.ref t.c_NoNumber, .ref t.c_TableError, .type "ValueError", .type "Exception", .type "BaseException", .type "object"]
  y_NoNumber : PySem.W.typeIn K (.ref t.c_NoNumber) = some (.type "type")
  m_NoGiven : mg "NoGiven" = some (.ref t.c_NoGiven)
  x_NoGiven : excAny K t.c_NoGiven = true
  o_NoGiven : XCls K t.c_NoGiven
  g_NoGiven : XClass K t.c_NoGiven
  r_NoGiven : (PySem.W.clsIn K t.c_NoGiven).map (·.mro) = some [.ref t.c_NoGiven, .ref t.c_TableError, .type "ValueError", .type "Exception", .type "BaseException", .type "object"]
  y_NoGiven : PySem.W.typeIn K (.ref t.c_NoGiven) = some (.type "type")
  m_There : mg "There" = some (.ref t.c_There)
  x_There : excAny K t.c_There = true
  o_There : XCls K t.c_There
  g_There : XClass K t.c_There
  r_There : (PySem.W.clsIn K t.c_There).map (·.mro) = some [.ref t.c_There, .ref t.c_TableError, .type "ValueError", .type "Exception", .type "BaseException", .type "object"]
  y_There : PySem.W.typeIn K (.ref t.c_There) = some (.type "type")
  m_Gone : mg "Gone" = some (.ref t.c_Gone)
  x_Gone : excAny K t.c_Gone = true
  o_Gone : XCls K t.c_Gone
  g_Gone : XClass K t.c_Gone
  r_Gone : (PySem.W.clsIn K t.c_Gone).map (·.mro) = some [.ref t.c_Gone, .ref t.c_TableError, .type "ValueError", .type "Exception", .type "BaseException", .type "object"]
  y_Gone : PySem.W.typeIn K (.ref t.c_Gone) = some (.type "type")
  m_NoDeeds : mg "NoDeeds" = some (.ref t.c_NoDeeds)
  x_NoDeeds : excAny K t.c_NoDeeds = true
  o_NoDeeds : XCls K t.c_NoDeeds
  g_NoDeeds : XClass K t.c_NoDeeds
  r_NoDeeds : (PySem.W.clsIn K t.c_NoDeeds).map (·.mro) = some [.ref t.c_NoDeeds, .ref t.c_TableError, .type "ValueError", .type "Exception", .type "BaseException", .type "object"]
  y_NoDeeds : PySem.W.typeIn K (.ref t.c_NoDeeds) = some (.type "type")
  m_NoDeed : mg "NoDeed" = some (.ref t.c_NoDeed)
  x_NoDeed : excAny K t.c_NoDeed = true
  o_NoDeed : XCls K t.c_NoDeed
  g_NoDeed : XClass K t.c_NoDeed
  r_NoDeed : (PySem.W.clsIn K t.c_NoDeed).map (·.mro) = some [.ref t.c_NoDeed, .ref t.c_TableError, .type "ValueError", .type "Exception", .type "BaseException", .type "object"]
  y_NoDeed : PySem.W.typeIn K (.ref t.c_NoDeed) = some (.type "type")
  m_NoText : mg "NoText" = some (.ref t.c_NoText)
  x_NoText : excAny K t.c_NoText = true
  o_NoText : XCls K t.c_NoText
  g_NoText : XClass K t.c_NoText
  r_NoText : (PySem.W.clsIn K t.c_NoText).map (·.mro) = some [.ref t.c_NoText, .ref t.c_TableError, .type "ValueError", .type "Exception", .type "BaseException", .type "object"]
  y_NoText : PySem.W.typeIn K (.ref t.c_NoText) = some (.type "type")
  m_NoLine : mg "NoLine" = some (.ref t.c_NoLine)
  x_NoLine : excAny K t.c_NoLine = true
  o_NoLine : XCls K t.c_NoLine
  g_NoLine : XClass K t.c_NoLine
  r_NoLine : (PySem.W.clsIn K t.c_NoLine).map (·.mro) = some [.ref t.c_NoLine, .ref t.c_TableError, .type "ValueError", .type "Exception", .type "BaseException", .type "object"]
  y_NoLine : PySem.W.typeIn K (.ref t.c_NoLine) = some (.type "type")
  m_NoName : mg "NoName" = some (.ref t.c_NoName)
  x_NoName : excAny K t.c_NoName = true
  o_NoName : XCls K t.c_NoName
  g_NoName : XClass K t.c_NoName
  r_NoName : (PySem.W.clsIn K t.c_NoName).map (·.mro) = some [.ref t.c_NoName, .ref t.c_TableError, .type "ValueError", .type "Exception", .type "BaseException", .type "object"]
  y_NoName : PySem.W.typeIn K (.ref t.c_NoName) = some (.type "type")
  m_TooWide : mg "TooWide" = some (.ref t.c_TooWide)
  x_TooWide : excAny K t.c_TooWide = true
  g_TooWide : XClass K t.c_TooWide
  r_TooWide : (PySem.W.clsIn K t.c_TooWide).map (·.mro) = some [.ref t.c_TooWide, .ref t.c_TableError, .type "ValueError", .type "Exception", .type "BaseException", .type "object"]
  y_TooWide : PySem.W.typeIn K (.ref t.c_TooWide) = some (.type "type")
  m_TooMany : mg "TooMany" = some (.ref t.c_TooMany)
  x_TooMany : excAny K t.c_TooMany = true
  g_TooMany : XClass K t.c_TooMany
  r_TooMany : (PySem.W.clsIn K t.c_TooMany).map (·.mro) = some [.ref t.c_TooMany, .ref t.c_TableError, .type "ValueError", .type "Exception", .type "BaseException", .type "object"]
  y_TooMany : PySem.W.typeIn K (.ref t.c_TooMany) = some (.type "type")
  m_Broken : mg "Broken" = some (.ref t.c_Broken)
  x_Broken : excAny K t.c_Broken = true
  g_Broken : XClass K t.c_Broken
  r_Broken : (PySem.W.clsIn K t.c_Broken).map (·.mro) = some [.ref t.c_Broken, .ref t.c_TableError, .type "ValueError", .type "Exception", .type "BaseException", .type "object"]
  y_Broken : PySem.W.typeIn K (.ref t.c_Broken) = some (.type "type")
  nd : [t.c_TableError, t.c_NoSet, t.c_NoBook, t.c_NoHanging, t.c_Unlike, t.c_NoTable, t.c_NoSplit, t.c_NoRow, t.c_NoColumn, t.c_NoNumber, t.c_NoGiven, t.c_There, t.c_Gone, t.c_NoDeeds, t.c_NoDeed, t.c_NoText, t.c_NoLine, t.c_NoName, t.c_TooWide, t.c_TooMany, t.c_Broken].Nodup
  m_COLUMNS : ∃ tk, mg "COLUMNS" = some (.str "abcdefgh" tk)
  n_ValueError : mg "ValueError" = none
  n_all : mg "all" = none
  n_int : mg "int" = none
  n_isinstance : mg "isinstance" = none
  n_len : mg "len" = none
  n_list : mg "list" = none
  n_max : mg "max" = none
  n_min : mg "min" = none
  n_range : mg "range" = none
  n_repr : mg "repr" = none
  n_set : mg "set" = none
  n_sorted : mg "sorted" = none
  n_str : mg "str" = none
  n_super : mg "super" = none
end M

set_option Elab.async false
set_option linter.all false
set_option maxRecDepth 100000
set_option maxHeartbeats 0
open_top head for PySem.Challenge.rw_keytables_k01_sets_of_columns

set_option Elab.async false
set_option linter.all false
set_option maxRecDepth 100000
set_option maxHeartbeats 4000000
namespace M
open PySem PySem.Spec PyProof.Rows L2
def adr : Adr := ⟨301,
  PySem.W.fnOf "is_set" "is_set" (defArgs s_is_set) (defBody s_is_set) (defScope s_is_set) .none (PySem.Value.none) (PySem.Value.none) (PySem.Value.str (PySem.Str.ofString "keytables.sets") 568) none (PySem.Value.ref 300) (PySem.Value.none),
  306,
  PySem.W.fnOf "both" "both" (defArgs s_both) (defBody s_both) (defScope s_both) .none (PySem.Value.none) (PySem.Value.none) (PySem.Value.str (PySem.Str.ofString "keytables.sets") 568) none (PySem.Value.ref 305) (PySem.Value.none),
  313,
  PySem.W.fnOf "either" "either" (defArgs s_either) (defBody s_either) (defScope s_either) .none (PySem.Value.none) (PySem.Value.none) (PySem.Value.str (PySem.Str.ofString "keytables.sets") 568) none (PySem.Value.ref 312) (PySem.Value.none),
  318,
  PySem.W.fnOf "lacked" "lacked" (defArgs s_lacked) (defBody s_lacked) (defScope s_lacked) .none (PySem.Value.none) (PySem.Value.none) (PySem.Value.str (PySem.Str.ofString "keytables.sets") 568) none (PySem.Value.ref 317) (PySem.Value.none),
  325,
  PySem.W.fnOf "lies_in" "lies_in" (defArgs s_lies_in) (defBody s_lies_in) (defScope s_lies_in) .none (PySem.Value.none) (PySem.Value.none) (PySem.Value.str (PySem.Str.ofString "keytables.sets") 568) none (PySem.Value.ref 324) (PySem.Value.none),
  332,
  PySem.W.fnOf "need_set" "need_set" (defArgs s_need_set) (defBody s_need_set) (defScope s_need_set) .none (PySem.Value.none) (PySem.Value.none) (PySem.Value.str (PySem.Str.ofString "keytables.sets") 568) none (PySem.Value.ref 331) (PySem.Value.none),
  337,
  PySem.W.fnOf "set_of" "set_of" (defArgs s_set_of) (defBody s_set_of) (defScope s_set_of) .none (PySem.Value.none) (PySem.Value.none) (PySem.Value.str (PySem.Str.ofString "keytables.sets") 568) none (PySem.Value.ref 336) (PySem.Value.none),
  342,
  PySem.W.fnOf "is_within" "is_within" (defArgs s_is_within) (defBody s_is_within) (defScope s_is_within) .none (PySem.Value.none) (PySem.Value.none) (PySem.Value.str (PySem.Str.ofString "keytables.sets") 568) none (PySem.Value.ref 341) (PySem.Value.none),
  349,
  PySem.W.fnOf "_law_cell_at" "_law_cell_at" (defArgs s_cell_at) (defBody s_cell_at) (defScope s_cell_at) .none (PySem.Value.none) (PySem.Value.none) (PySem.Value.str (PySem.Str.ofString "law_keytables_k01_sets_of_columns") 626) none (PySem.Value.ref 348) (PySem.Value.none),
  356,
  PySem.W.fnOf "_law_state" "_law_state" (defArgs s_state) (defBody s_state) (defScope s_state) .none (PySem.Value.none) (PySem.Value.none) (PySem.Value.str (PySem.Str.ofString "law_keytables_k01_sets_of_columns") 626) none (PySem.Value.ref 355) (PySem.Value.none),
  363,
  PySem.W.fnOf "_law_choice" "_law_choice" (defArgs s_choice) (defBody s_choice) (defScope s_choice) .none (PySem.Value.none) (PySem.Value.none) (PySem.Value.str (PySem.Str.ofString "law_keytables_k01_sets_of_columns") 626) none (PySem.Value.ref 362) (PySem.Value.none),
  370,
  PySem.W.fnOf "_law_same" "_law_same" (defArgs s_same) (defBody s_same) (defScope s_same) .none (PySem.Value.none) (PySem.Value.none) (PySem.Value.str (PySem.Str.ofString "law_keytables_k01_sets_of_columns") 626) none (PySem.Value.ref 369) (PySem.Value.none),
  377,
  PySem.W.fnOf "_law_marks" "_law_marks" (defArgs s_marks) (defBody s_marks) (defScope s_marks) .none (PySem.Value.none) (PySem.Value.none) (PySem.Value.str (PySem.Str.ofString "law_keytables_k01_sets_of_columns") 626) none (PySem.Value.ref 376) (PySem.Value.none),
  384,
  PySem.W.fnOf "_law_said" "_law_said" (defArgs s_said) (defBody s_said) (defScope s_said) .none (PySem.Value.none) (PySem.Value.none) (PySem.Value.str (PySem.Str.ofString "law_keytables_k01_sets_of_columns") 626) none (PySem.Value.ref 383) (PySem.Value.none),
  391,
  PySem.W.fnOf "_law_bits" "_law_bits" (defArgs s_bits) (defBody s_bits) (defScope s_bits) .none (PySem.Value.none) (PySem.Value.none) (PySem.Value.str (PySem.Str.ofString "law_keytables_k01_sets_of_columns") 626) none (PySem.Value.ref 390) (PySem.Value.none),
  398,
  PySem.W.fnOf "_law_head" "_law_head" (defArgs s_head) (defBody s_head) (defScope s_head) .none (PySem.Value.none) (PySem.Value.none) (PySem.Value.str (PySem.Str.ofString "law_keytables_k01_sets_of_columns") 626) none (PySem.Value.ref 397) (PySem.Value.none),
  403,
  PySem.W.fnOf "_law_pick" "_law_pick" (defArgs s_pick) (defBody s_pick) (defScope s_pick) .none (PySem.Value.none) (PySem.Value.none) (PySem.Value.str (PySem.Str.ofString "law_keytables_k01_sets_of_columns") 626) none (PySem.Value.ref 402) (PySem.Value.none),
  410,
  PySem.W.fnOf "_law_text_bent" "_law_text_bent" (defArgs s_text_bent) (defBody s_text_bent) (defScope s_text_bent) .none (PySem.Value.none) (PySem.Value.none) (PySem.Value.str (PySem.Str.ofString "law_keytables_k01_sets_of_columns") 626) none (PySem.Value.ref 409) (PySem.Value.none),
  415,
  PySem.W.fnOf "_law_is_set" "_law_is_set" (defArgs s_l_is_set) (defBody s_l_is_set) (defScope s_l_is_set) .none (PySem.Value.none) (PySem.Value.none) (PySem.Value.str (PySem.Str.ofString "law_keytables_k01_sets_of_columns") 626) none (PySem.Value.ref 414) (PySem.Value.none),
  420,
  PySem.W.fnOf "_law_pair_right" "_law_pair_right" (defArgs s_pair_right) (defBody s_pair_right) (defScope s_pair_right) .none (PySem.Value.none) (PySem.Value.none) (PySem.Value.str (PySem.Str.ofString "law_keytables_k01_sets_of_columns") 626) none (PySem.Value.ref 419) (PySem.Value.none),
  425,
  PySem.W.fnOf "_law_refused_right" "_law_refused_right" (defArgs s_refused_right) (defBody s_refused_right) (defScope s_refused_right) .none (PySem.Value.none) (PySem.Value.none) (PySem.Value.str (PySem.Str.ofString "law_keytables_k01_sets_of_columns") 626) none (PySem.Value.ref 424) (PySem.Value.none),
  432,
  PySem.W.fnOf "law" "law" (defArgs s_law) (defBody s_law) (defScope s_law) .none (PySem.Value.none) (PySem.Value.none) (PySem.Value.str (PySem.Str.ofString "law_keytables_k01_sets_of_columns") 626) none (PySem.Value.ref 431) (PySem.Value.none),
  24,
  37,
  49,
  61,
  73,
  85,
  97,
  109,
  121,
  133,
  145,
  157,
  169,
  181,
  193,
  205,
  217,
  229,
  250,
  271,
  292,
  424,
  422⟩
variable {P : Params} {h : Heap} {mg : Str → Option Value}
theorem ym_is_set (X : (head.heap_39 P).In h) (G : h.Ns mainGlobals mg) : mg "is_set" = some (.ref adr.f_is_set) := PySem.W.mg_of X G (by kernel_rfl)
theorem zl_is_set  : (head.heap_39 P).lookup 301 = some ⟨PySem.Value.type "function", none, .func (PySem.W.fnOf "is_set" "is_set" (defArgs s_is_set) (defBody s_is_set) (defScope s_is_set) .none (PySem.Value.none) (PySem.Value.none) (PySem.Value.str (PySem.Str.ofString "keytables.sets") 568) none (PySem.Value.ref 300) (PySem.Value.none)), #[]⟩ := by kernel_rfl
theorem zh_is_set  : PySem.W.codeIn (head.heap_39 P) (PySem.Value.ref 300) "is_set" = true := by kernel_rfl
theorem zk_is_set  : PySem.W.keepIn (head.heap_39 P) (.ref 301) = true := by kernel_rfl
theorem yf_is_set  : Fun (head.heap_39 P) "is_set" "is_set" s_is_set adr.f_is_set adr.d_is_set := fun_mk (st := s_is_set) zl_is_set zh_is_set zk_is_set
theorem yb_is_set  : L2.Binds (head.heap_39 P) adr.d_is_set p_is_set [] := (fun_mk (st := s_is_set) zl_is_set zh_is_set zk_is_set).binds (ps := p_is_set) (fun _ _ _ _ _ _ us hl => match us, hl with | [_], _ => rfl)
theorem ym_both (X : (head.heap_39 P).In h) (G : h.Ns mainGlobals mg) : mg "both" = some (.ref adr.f_both) := PySem.W.mg_of X G (by kernel_rfl)
theorem zl_both  : (head.heap_39 P).lookup 306 = some ⟨PySem.Value.type "function", none, .func (PySem.W.fnOf "both" "both" (defArgs s_both) (defBody s_both) (defScope s_both) .none (PySem.Value.none) (PySem.Value.none) (PySem.Value.str (PySem.Str.ofString "keytables.sets") 568) none (PySem.Value.ref 305) (PySem.Value.none)), #[]⟩ := by kernel_rfl
theorem zh_both  : PySem.W.codeIn (head.heap_39 P) (PySem.Value.ref 305) "both" = true := by kernel_rfl
theorem zk_both  : PySem.W.keepIn (head.heap_39 P) (.ref 306) = true := by kernel_rfl
theorem yf_both  : Fun (head.heap_39 P) "both" "both" s_both adr.f_both adr.d_both := fun_mk (st := s_both) zl_both zh_both zk_both
theorem yb_both  : L2.Binds (head.heap_39 P) adr.d_both p_both [] := (fun_mk (st := s_both) zl_both zh_both zk_both).binds (ps := p_both) (fun _ _ _ _ _ _ us hl => match us, hl with | [_, _], _ => rfl)
theorem ym_either (X : (head.heap_39 P).In h) (G : h.Ns mainGlobals mg) : mg "either" = some (.ref adr.f_either) := PySem.W.mg_of X G (by kernel_rfl)
theorem zl_either  : (head.heap_39 P).lookup 313 = some ⟨PySem.Value.type "function", none, .func (PySem.W.fnOf "either" "either" (defArgs s_either) (defBody s_either) (defScope s_either) .none (PySem.Value.none) (PySem.Value.none) (PySem.Value.str (PySem.Str.ofString "keytables.sets") 568) none (PySem.Value.ref 312) (PySem.Value.none)), #[]⟩ := by kernel_rfl
theorem zh_either  : PySem.W.codeIn (head.heap_39 P) (PySem.Value.ref 312) "either" = true := by kernel_rfl
theorem zk_either  : PySem.W.keepIn (head.heap_39 P) (.ref 313) = true := by kernel_rfl
theorem yf_either  : Fun (head.heap_39 P) "either" "either" s_either adr.f_either adr.d_either := fun_mk (st := s_either) zl_either zh_either zk_either
theorem yb_either  : L2.Binds (head.heap_39 P) adr.d_either p_either [] := (fun_mk (st := s_either) zl_either zh_either zk_either).binds (ps := p_either) (fun _ _ _ _ _ _ us hl => match us, hl with | [_, _], _ => rfl)
theorem ym_lacked (X : (head.heap_39 P).In h) (G : h.Ns mainGlobals mg) : mg "lacked" = some (.ref adr.f_lacked) := PySem.W.mg_of X G (by kernel_rfl)
theorem zl_lacked  : (head.heap_39 P).lookup 318 = some ⟨PySem.Value.type "function", none, .func (PySem.W.fnOf "lacked" "lacked" (defArgs s_lacked) (defBody s_lacked) (defScope s_lacked) .none (PySem.Value.none) (PySem.Value.none) (PySem.Value.str (PySem.Str.ofString "keytables.sets") 568) none (PySem.Value.ref 317) (PySem.Value.none)), #[]⟩ := by kernel_rfl
theorem zh_lacked  : PySem.W.codeIn (head.heap_39 P) (PySem.Value.ref 317) "lacked" = true := by kernel_rfl
theorem zk_lacked  : PySem.W.keepIn (head.heap_39 P) (.ref 318) = true := by kernel_rfl
theorem yf_lacked  : Fun (head.heap_39 P) "lacked" "lacked" s_lacked adr.f_lacked adr.d_lacked := fun_mk (st := s_lacked) zl_lacked zh_lacked zk_lacked
theorem yb_lacked  : L2.Binds (head.heap_39 P) adr.d_lacked p_lacked [] := (fun_mk (st := s_lacked) zl_lacked zh_lacked zk_lacked).binds (ps := p_lacked) (fun _ _ _ _ _ _ us hl => match us, hl with | [_, _], _ => rfl)
theorem ym_lies_in (X : (head.heap_39 P).In h) (G : h.Ns mainGlobals mg) : mg "lies_in" = some (.ref adr.f_lies_in) := PySem.W.mg_of X G (by kernel_rfl)
theorem zl_lies_in  : (head.heap_39 P).lookup 325 = some ⟨PySem.Value.type "function", none, .func (PySem.W.fnOf "lies_in" "lies_in" (defArgs s_lies_in) (defBody s_lies_in) (defScope s_lies_in) .none (PySem.Value.none) (PySem.Value.none) (PySem.Value.str (PySem.Str.ofString "keytables.sets") 568) none (PySem.Value.ref 324) (PySem.Value.none)), #[]⟩ := by kernel_rfl
theorem zh_lies_in  : PySem.W.codeIn (head.heap_39 P) (PySem.Value.ref 324) "lies_in" = true := by kernel_rfl
theorem zk_lies_in  : PySem.W.keepIn (head.heap_39 P) (.ref 325) = true := by kernel_rfl
theorem yf_lies_in  : Fun (head.heap_39 P) "lies_in" "lies_in" s_lies_in adr.f_lies_in adr.d_lies_in := fun_mk (st := s_lies_in) zl_lies_in zh_lies_in zk_lies_in
theorem yb_lies_in  : L2.Binds (head.heap_39 P) adr.d_lies_in p_lies_in [] := (fun_mk (st := s_lies_in) zl_lies_in zh_lies_in zk_lies_in).binds (ps := p_lies_in) (fun _ _ _ _ _ _ us hl => match us, hl with | [_, _], _ => rfl)
theorem ym_need_set (X : (head.heap_39 P).In h) (G : h.Ns mainGlobals mg) : mg "need_set" = some (.ref adr.f_need_set) := PySem.W.mg_of X G (by kernel_rfl)
theorem zl_need_set  : (head.heap_39 P).lookup 332 = some ⟨PySem.Value.type "function", none, .func (PySem.W.fnOf "need_set" "need_set" (defArgs s_need_set) (defBody s_need_set) (defScope s_need_set) .none (PySem.Value.none) (PySem.Value.none) (PySem.Value.str (PySem.Str.ofString "keytables.sets") 568) none (PySem.Value.ref 331) (PySem.Value.none)), #[]⟩ := by kernel_rfl
theorem zh_need_set  : PySem.W.codeIn (head.heap_39 P) (PySem.Value.ref 331) "need_set" = true := by kernel_rfl
theorem zk_need_set  : PySem.W.keepIn (head.heap_39 P) (.ref 332) = true := by kernel_rfl
theorem yf_need_set  : Fun (head.heap_39 P) "need_set" "need_set" s_need_set adr.f_need_set adr.d_need_set := fun_mk (st := s_need_set) zl_need_set zh_need_set zk_need_set
theorem yb_need_set  : L2.Binds (head.heap_39 P) adr.d_need_set p_need_set [] := (fun_mk (st := s_need_set) zl_need_set zh_need_set zk_need_set).binds (ps := p_need_set) (fun _ _ _ _ _ _ us hl => match us, hl with | [_], _ => rfl)
theorem ym_set_of (X : (head.heap_39 P).In h) (G : h.Ns mainGlobals mg) : mg "set_of" = some (.ref adr.f_set_of) := PySem.W.mg_of X G (by kernel_rfl)
theorem zl_set_of  : (head.heap_39 P).lookup 337 = some ⟨PySem.Value.type "function", none, .func (PySem.W.fnOf "set_of" "set_of" (defArgs s_set_of) (defBody s_set_of) (defScope s_set_of) .none (PySem.Value.none) (PySem.Value.none) (PySem.Value.str (PySem.Str.ofString "keytables.sets") 568) none (PySem.Value.ref 336) (PySem.Value.none)), #[]⟩ := by kernel_rfl
theorem zh_set_of  : PySem.W.codeIn (head.heap_39 P) (PySem.Value.ref 336) "set_of" = true := by kernel_rfl
theorem zk_set_of  : PySem.W.keepIn (head.heap_39 P) (.ref 337) = true := by kernel_rfl
theorem yf_set_of  : Fun (head.heap_39 P) "set_of" "set_of" s_set_of adr.f_set_of adr.d_set_of := fun_mk (st := s_set_of) zl_set_of zh_set_of zk_set_of
theorem yb_set_of  : L2.Binds (head.heap_39 P) adr.d_set_of p_set_of [] := (fun_mk (st := s_set_of) zl_set_of zh_set_of zk_set_of).binds (ps := p_set_of) (fun _ _ _ _ _ _ us hl => match us, hl with | [_], _ => rfl)
theorem ym_is_within (X : (head.heap_39 P).In h) (G : h.Ns mainGlobals mg) : mg "is_within" = some (.ref adr.f_is_within) := PySem.W.mg_of X G (by kernel_rfl)
theorem zl_is_within  : (head.heap_39 P).lookup 342 = some ⟨PySem.Value.type "function", none, .func (PySem.W.fnOf "is_within" "is_within" (defArgs s_is_within) (defBody s_is_within) (defScope s_is_within) .none (PySem.Value.none) (PySem.Value.none) (PySem.Value.str (PySem.Str.ofString "keytables.sets") 568) none (PySem.Value.ref 341) (PySem.Value.none)), #[]⟩ := by kernel_rfl
theorem zh_is_within  : PySem.W.codeIn (head.heap_39 P) (PySem.Value.ref 341) "is_within" = true := by kernel_rfl
theorem zk_is_within  : PySem.W.keepIn (head.heap_39 P) (.ref 342) = true := by kernel_rfl
theorem yf_is_within  : Fun (head.heap_39 P) "is_within" "is_within" s_is_within adr.f_is_within adr.d_is_within := fun_mk (st := s_is_within) zl_is_within zh_is_within zk_is_within
theorem yb_is_within  : L2.Binds (head.heap_39 P) adr.d_is_within p_is_within [] := (fun_mk (st := s_is_within) zl_is_within zh_is_within zk_is_within).binds (ps := p_is_within) (fun _ _ _ _ _ _ us hl => match us, hl with | [_, _], _ => rfl)
theorem ym_cell_at (X : (head.heap_39 P).In h) (G : h.Ns mainGlobals mg) : mg "_law_cell_at" = some (.ref adr.f_cell_at) := PySem.W.mg_of X G (by kernel_rfl)
theorem zl_cell_at  : (head.heap_39 P).lookup 349 = some ⟨PySem.Value.type "function", none, .func (PySem.W.fnOf "_law_cell_at" "_law_cell_at" (defArgs s_cell_at) (defBody s_cell_at) (defScope s_cell_at) .none (PySem.Value.none) (PySem.Value.none) (PySem.Value.str (PySem.Str.ofString "law_keytables_k01_sets_of_columns") 626) none (PySem.Value.ref 348) (PySem.Value.none)), #[]⟩ := by kernel_rfl
theorem zh_cell_at  : PySem.W.codeIn (head.heap_39 P) (PySem.Value.ref 348) "_law_cell_at" = true := by kernel_rfl
theorem zk_cell_at  : PySem.W.keepIn (head.heap_39 P) (.ref 349) = true := by kernel_rfl
theorem yf_cell_at  : Fun (head.heap_39 P) "_law_cell_at" "_law_cell_at" s_cell_at adr.f_cell_at adr.d_cell_at := fun_mk (st := s_cell_at) zl_cell_at zh_cell_at zk_cell_at
theorem yb_cell_at  : L2.Binds (head.heap_39 P) adr.d_cell_at p_cell_at [] := (fun_mk (st := s_cell_at) zl_cell_at zh_cell_at zk_cell_at).binds (ps := p_cell_at) (fun _ _ _ _ _ _ us hl => match us, hl with | [_, _], _ => rfl)
theorem ym_state (X : (head.heap_39 P).In h) (G : h.Ns mainGlobals mg) : mg "_law_state" = some (.ref adr.f_state) := PySem.W.mg_of X G (by kernel_rfl)
theorem zl_state  : (head.heap_39 P).lookup 356 = some ⟨PySem.Value.type "function", none, .func (PySem.W.fnOf "_law_state" "_law_state" (defArgs s_state) (defBody s_state) (defScope s_state) .none (PySem.Value.none) (PySem.Value.none) (PySem.Value.str (PySem.Str.ofString "law_keytables_k01_sets_of_columns") 626) none (PySem.Value.ref 355) (PySem.Value.none)), #[]⟩ := by kernel_rfl
theorem zh_state  : PySem.W.codeIn (head.heap_39 P) (PySem.Value.ref 355) "_law_state" = true := by kernel_rfl
theorem zk_state  : PySem.W.keepIn (head.heap_39 P) (.ref 356) = true := by kernel_rfl
theorem yf_state  : Fun (head.heap_39 P) "_law_state" "_law_state" s_state adr.f_state adr.d_state := fun_mk (st := s_state) zl_state zh_state zk_state
theorem yb_state  : L2.Binds (head.heap_39 P) adr.d_state p_state [] := (fun_mk (st := s_state) zl_state zh_state zk_state).binds (ps := p_state) (fun _ _ _ _ _ _ us hl => match us, hl with | [_, _], _ => rfl)
theorem ym_choice (X : (head.heap_39 P).In h) (G : h.Ns mainGlobals mg) : mg "_law_choice" = some (.ref adr.f_choice) := PySem.W.mg_of X G (by kernel_rfl)
theorem zl_choice  : (head.heap_39 P).lookup 363 = some ⟨PySem.Value.type "function", none, .func (PySem.W.fnOf "_law_choice" "_law_choice" (defArgs s_choice) (defBody s_choice) (defScope s_choice) .none (PySem.Value.none) (PySem.Value.none) (PySem.Value.str (PySem.Str.ofString "law_keytables_k01_sets_of_columns") 626) none (PySem.Value.ref 362) (PySem.Value.none)), #[]⟩ := by kernel_rfl
theorem zh_choice  : PySem.W.codeIn (head.heap_39 P) (PySem.Value.ref 362) "_law_choice" = true := by kernel_rfl
theorem zk_choice  : PySem.W.keepIn (head.heap_39 P) (.ref 363) = true := by kernel_rfl
theorem yf_choice  : Fun (head.heap_39 P) "_law_choice" "_law_choice" s_choice adr.f_choice adr.d_choice := fun_mk (st := s_choice) zl_choice zh_choice zk_choice
theorem yb_choice  : L2.Binds (head.heap_39 P) adr.d_choice p_choice [] := (fun_mk (st := s_choice) zl_choice zh_choice zk_choice).binds (ps := p_choice) (fun _ _ _ _ _ _ us hl => match us, hl with | [_, _], _ => rfl)
theorem ym_same (X : (head.heap_39 P).In h) (G : h.Ns mainGlobals mg) : mg "_law_same" = some (.ref adr.f_same) := PySem.W.mg_of X G (by kernel_rfl)
theorem zl_same  : (head.heap_39 P).lookup 370 = some ⟨PySem.Value.type "function", none, .func (PySem.W.fnOf "_law_same" "_law_same" (defArgs s_same) (defBody s_same) (defScope s_same) .none (PySem.Value.none) (PySem.Value.none) (PySem.Value.str (PySem.Str.ofString "law_keytables_k01_sets_of_columns") 626) none (PySem.Value.ref 369) (PySem.Value.none)), #[]⟩ := by kernel_rfl
theorem zh_same  : PySem.W.codeIn (head.heap_39 P) (PySem.Value.ref 369) "_law_same" = true := by kernel_rfl
theorem zk_same  : PySem.W.keepIn (head.heap_39 P) (.ref 370) = true := by kernel_rfl
theorem yf_same  : Fun (head.heap_39 P) "_law_same" "_law_same" s_same adr.f_same adr.d_same := fun_mk (st := s_same) zl_same zh_same zk_same
theorem yb_same  : L2.Binds (head.heap_39 P) adr.d_same p_same [] := (fun_mk (st := s_same) zl_same zh_same zk_same).binds (ps := p_same) (fun _ _ _ _ _ _ us hl => match us, hl with | [_, _], _ => rfl)
theorem ym_marks (X : (head.heap_39 P).In h) (G : h.Ns mainGlobals mg) : mg "_law_marks" = some (.ref adr.f_marks) := PySem.W.mg_of X G (by kernel_rfl)
theorem zl_marks  : (head.heap_39 P).lookup 377 = some ⟨PySem.Value.type "function", none, .func (PySem.W.fnOf "_law_marks" "_law_marks" (defArgs s_marks) (defBody s_marks) (defScope s_marks) .none (PySem.Value.none) (PySem.Value.none) (PySem.Value.str (PySem.Str.ofString "law_keytables_k01_sets_of_columns") 626) none (PySem.Value.ref 376) (PySem.Value.none)), #[]⟩ := by kernel_rfl
theorem zh_marks  : PySem.W.codeIn (head.heap_39 P) (PySem.Value.ref 376) "_law_marks" = true := by kernel_rfl
theorem zk_marks  : PySem.W.keepIn (head.heap_39 P) (.ref 377) = true := by kernel_rfl
theorem yf_marks  : Fun (head.heap_39 P) "_law_marks" "_law_marks" s_marks adr.f_marks adr.d_marks := fun_mk (st := s_marks) zl_marks zh_marks zk_marks
theorem yb_marks  : L2.Binds (head.heap_39 P) adr.d_marks p_marks [] := (fun_mk (st := s_marks) zl_marks zh_marks zk_marks).binds (ps := p_marks) (fun _ _ _ _ _ _ us hl => match us, hl with | [_], _ => rfl)
theorem ym_said (X : (head.heap_39 P).In h) (G : h.Ns mainGlobals mg) : mg "_law_said" = some (.ref adr.f_said) := PySem.W.mg_of X G (by kernel_rfl)
theorem zl_said  : (head.heap_39 P).lookup 384 = some ⟨PySem.Value.type "function", none, .func (PySem.W.fnOf "_law_said" "_law_said" (defArgs s_said) (defBody s_said) (defScope s_said) .none (PySem.Value.none) (PySem.Value.none) (PySem.Value.str (PySem.Str.ofString "law_keytables_k01_sets_of_columns") 626) none (PySem.Value.ref 383) (PySem.Value.none)), #[]⟩ := by kernel_rfl
theorem zh_said  : PySem.W.codeIn (head.heap_39 P) (PySem.Value.ref 383) "_law_said" = true := by kernel_rfl
theorem zk_said  : PySem.W.keepIn (head.heap_39 P) (.ref 384) = true := by kernel_rfl
theorem yf_said  : Fun (head.heap_39 P) "_law_said" "_law_said" s_said adr.f_said adr.d_said := fun_mk (st := s_said) zl_said zh_said zk_said
theorem yb_said  : L2.Binds (head.heap_39 P) adr.d_said p_said [] := (fun_mk (st := s_said) zl_said zh_said zk_said).binds (ps := p_said) (fun _ _ _ _ _ _ us hl => match us, hl with | [_], _ => rfl)
theorem ym_bits (X : (head.heap_39 P).In h) (G : h.Ns mainGlobals mg) : mg "_law_bits" = some (.ref adr.f_bits) := PySem.W.mg_of X G (by kernel_rfl)
theorem zl_bits  : (head.heap_39 P).lookup 391 = some ⟨PySem.Value.type "function", none, .func (PySem.W.fnOf "_law_bits" "_law_bits" (defArgs s_bits) (defBody s_bits) (defScope s_bits) .none (PySem.Value.none) (PySem.Value.none) (PySem.Value.str (PySem.Str.ofString "law_keytables_k01_sets_of_columns") 626) none (PySem.Value.ref 390) (PySem.Value.none)), #[]⟩ := by kernel_rfl
theorem zh_bits  : PySem.W.codeIn (head.heap_39 P) (PySem.Value.ref 390) "_law_bits" = true := by kernel_rfl
theorem zk_bits  : PySem.W.keepIn (head.heap_39 P) (.ref 391) = true := by kernel_rfl
theorem yf_bits  : Fun (head.heap_39 P) "_law_bits" "_law_bits" s_bits adr.f_bits adr.d_bits := fun_mk (st := s_bits) zl_bits zh_bits zk_bits
theorem yb_bits  : L2.Binds (head.heap_39 P) adr.d_bits p_bits [] := (fun_mk (st := s_bits) zl_bits zh_bits zk_bits).binds (ps := p_bits) (fun _ _ _ _ _ _ us hl => match us, hl with | [_, _], _ => rfl)
theorem ym_head (X : (head.heap_39 P).In h) (G : h.Ns mainGlobals mg) : mg "_law_head" = some (.ref adr.f_head) := PySem.W.mg_of X G (by kernel_rfl)
theorem zl_head  : (head.heap_39 P).lookup 398 = some ⟨PySem.Value.type "function", none, .func (PySem.W.fnOf "_law_head" "_law_head" (defArgs s_head) (defBody s_head) (defScope s_head) .none (PySem.Value.none) (PySem.Value.none) (PySem.Value.str (PySem.Str.ofString "law_keytables_k01_sets_of_columns") 626) none (PySem.Value.ref 397) (PySem.Value.none)), #[]⟩ := by kernel_rfl
theorem zh_head  : PySem.W.codeIn (head.heap_39 P) (PySem.Value.ref 397) "_law_head" = true := by kernel_rfl
theorem zk_head  : PySem.W.keepIn (head.heap_39 P) (.ref 398) = true := by kernel_rfl
theorem yf_head  : Fun (head.heap_39 P) "_law_head" "_law_head" s_head adr.f_head adr.d_head := fun_mk (st := s_head) zl_head zh_head zk_head
theorem yb_head  : L2.Binds (head.heap_39 P) adr.d_head p_head [] := (fun_mk (st := s_head) zl_head zh_head zk_head).binds (ps := p_head) (fun _ _ _ _ _ _ us hl => match us, hl with | [_], _ => rfl)
theorem ym_pick (X : (head.heap_39 P).In h) (G : h.Ns mainGlobals mg) : mg "_law_pick" = some (.ref adr.f_pick) := PySem.W.mg_of X G (by kernel_rfl)
theorem zl_pick  : (head.heap_39 P).lookup 403 = some ⟨PySem.Value.type "function", none, .func (PySem.W.fnOf "_law_pick" "_law_pick" (defArgs s_pick) (defBody s_pick) (defScope s_pick) .none (PySem.Value.none) (PySem.Value.none) (PySem.Value.str (PySem.Str.ofString "law_keytables_k01_sets_of_columns") 626) none (PySem.Value.ref 402) (PySem.Value.none)), #[]⟩ := by kernel_rfl
theorem zh_pick  : PySem.W.codeIn (head.heap_39 P) (PySem.Value.ref 402) "_law_pick" = true := by kernel_rfl
theorem zk_pick  : PySem.W.keepIn (head.heap_39 P) (.ref 403) = true := by kernel_rfl
theorem yf_pick  : Fun (head.heap_39 P) "_law_pick" "_law_pick" s_pick adr.f_pick adr.d_pick := fun_mk (st := s_pick) zl_pick zh_pick zk_pick
theorem yb_pick  : L2.Binds (head.heap_39 P) adr.d_pick p_pick [] := (fun_mk (st := s_pick) zl_pick zh_pick zk_pick).binds (ps := p_pick) (fun _ _ _ _ _ _ us hl => match us, hl with | [_, _], _ => rfl)
theorem ym_text_bent (X : (head.heap_39 P).In h) (G : h.Ns mainGlobals mg) : mg "_law_text_bent" = some (.ref adr.f_text_bent) := PySem.W.mg_of X G (by kernel_rfl)
theorem zl_text_bent  : (head.heap_39 P).lookup 410 = some ⟨PySem.Value.type "function", none, .func (PySem.W.fnOf "_law_text_bent" "_law_text_bent" (defArgs s_text_bent) (defBody s_text_bent) (defScope s_text_bent) .none (PySem.Value.none) (PySem.Value.none) (PySem.Value.str (PySem.Str.ofString "law_keytables_k01_sets_of_columns") 626) none (PySem.Value.ref 409) (PySem.Value.none)), #[]⟩ := by kernel_rfl
theorem zh_text_bent  : PySem.W.codeIn (head.heap_39 P) (PySem.Value.ref 409) "_law_text_bent" = true := by kernel_rfl
theorem zk_text_bent  : PySem.W.keepIn (head.heap_39 P) (.ref 410) = true := by kernel_rfl
theorem yf_text_bent  : Fun (head.heap_39 P) "_law_text_bent" "_law_text_bent" s_text_bent adr.f_text_bent adr.d_text_bent := fun_mk (st := s_text_bent) zl_text_bent zh_text_bent zk_text_bent
theorem yb_text_bent  : L2.Binds (head.heap_39 P) adr.d_text_bent p_text_bent [] := (fun_mk (st := s_text_bent) zl_text_bent zh_text_bent zk_text_bent).binds (ps := p_text_bent) (fun _ _ _ _ _ _ us hl => match us, hl with | [_, _], _ => rfl)
theorem ym_l_is_set (X : (head.heap_39 P).In h) (G : h.Ns mainGlobals mg) : mg "_law_is_set" = some (.ref adr.f_l_is_set) := PySem.W.mg_of X G (by kernel_rfl)
theorem zl_l_is_set  : (head.heap_39 P).lookup 415 = some ⟨PySem.Value.type "function", none, .func (PySem.W.fnOf "_law_is_set" "_law_is_set" (defArgs s_l_is_set) (defBody s_l_is_set) (defScope s_l_is_set) .none (PySem.Value.none) (PySem.Value.none) (PySem.Value.str (PySem.Str.ofString "law_keytables_k01_sets_of_columns") 626) none (PySem.Value.ref 414) (PySem.Value.none)), #[]⟩ := by kernel_rfl
theorem zh_l_is_set  : PySem.W.codeIn (head.heap_39 P) (PySem.Value.ref 414) "_law_is_set" = true := by kernel_rfl
theorem zk_l_is_set  : PySem.W.keepIn (head.heap_39 P) (.ref 415) = true := by kernel_rfl
theorem yf_l_is_set  : Fun (head.heap_39 P) "_law_is_set" "_law_is_set" s_l_is_set adr.f_l_is_set adr.d_l_is_set := fun_mk (st := s_l_is_set) zl_l_is_set zh_l_is_set zk_l_is_set
theorem yb_l_is_set  : L2.Binds (head.heap_39 P) adr.d_l_is_set p_l_is_set [] := (fun_mk (st := s_l_is_set) zl_l_is_set zh_l_is_set zk_l_is_set).binds (ps := p_l_is_set) (fun _ _ _ _ _ _ us hl => match us, hl with | [_, _], _ => rfl)
theorem ym_pair_right (X : (head.heap_39 P).In h) (G : h.Ns mainGlobals mg) : mg "_law_pair_right" = some (.ref adr.f_pair_right) := PySem.W.mg_of X G (by kernel_rfl)
theorem zl_pair_right  : (head.heap_39 P).lookup 420 = some ⟨PySem.Value.type "function", none, .func (PySem.W.fnOf "_law_pair_right" "_law_pair_right" (defArgs s_pair_right) (defBody s_pair_right) (defScope s_pair_right) .none (PySem.Value.none) (PySem.Value.none) (PySem.Value.str (PySem.Str.ofString "law_keytables_k01_sets_of_columns") 626) none (PySem.Value.ref 419) (PySem.Value.none)), #[]⟩ := by kernel_rfl
theorem zh_pair_right  : PySem.W.codeIn (head.heap_39 P) (PySem.Value.ref 419) "_law_pair_right" = true := by kernel_rfl
theorem zk_pair_right  : PySem.W.keepIn (head.heap_39 P) (.ref 420) = true := by kernel_rfl
theorem yf_pair_right  : Fun (head.heap_39 P) "_law_pair_right" "_law_pair_right" s_pair_right adr.f_pair_right adr.d_pair_right := fun_mk (st := s_pair_right) zl_pair_right zh_pair_right zk_pair_right
theorem yb_pair_right  : L2.Binds (head.heap_39 P) adr.d_pair_right p_pair_right [] := (fun_mk (st := s_pair_right) zl_pair_right zh_pair_right zk_pair_right).binds (ps := p_pair_right) (fun _ _ _ _ _ _ us hl => match us, hl with | [_, _], _ => rfl)
theorem ym_refused_right (X : (head.heap_39 P).In h) (G : h.Ns mainGlobals mg) : mg "_law_refused_right" = some (.ref adr.f_refused_right) := PySem.W.mg_of X G (by kernel_rfl)
theorem zl_refused_right  : (head.heap_39 P).lookup 425 = some ⟨PySem.Value.type "function", none, .func (PySem.W.fnOf "_law_refused_right" "_law_refused_right" (defArgs s_refused_right) (defBody s_refused_right) (defScope s_refused_right) .none (PySem.Value.none) (PySem.Value.none) (PySem.Value.str (PySem.Str.ofString "law_keytables_k01_sets_of_columns") 626) none (PySem.Value.ref 424) (PySem.Value.none)), #[]⟩ := by kernel_rfl
theorem zh_refused_right  : PySem.W.codeIn (head.heap_39 P) (PySem.Value.ref 424) "_law_refused_right" = true := by kernel_rfl
theorem zk_refused_right  : PySem.W.keepIn (head.heap_39 P) (.ref 425) = true := by kernel_rfl
theorem yf_refused_right  : Fun (head.heap_39 P) "_law_refused_right" "_law_refused_right" s_refused_right adr.f_refused_right adr.d_refused_right := fun_mk (st := s_refused_right) zl_refused_right zh_refused_right zk_refused_right
theorem yb_refused_right  : L2.Binds (head.heap_39 P) adr.d_refused_right p_refused_right [] := (fun_mk (st := s_refused_right) zl_refused_right zh_refused_right zk_refused_right).binds (ps := p_refused_right) (fun _ _ _ _ _ _ us hl => match us, hl with | [_, _], _ => rfl)
theorem yc_refused_right  : adr.d_refused_right.code = .ref adr.kc_refused_right := rfl
theorem yh_refused_right  : PySem.W.codeHdIn (head.heap_39 P) adr.kc_refused_right adr.kp_refused_right = true := by kernel_rfl
theorem ym_law (X : (head.heap_39 P).In h) (G : h.Ns mainGlobals mg) : mg "law" = some (.ref adr.f_law) := PySem.W.mg_of X G (by kernel_rfl)
theorem zl_law  : (head.heap_39 P).lookup 432 = some ⟨PySem.Value.type "function", none, .func (PySem.W.fnOf "law" "law" (defArgs s_law) (defBody s_law) (defScope s_law) .none (PySem.Value.none) (PySem.Value.none) (PySem.Value.str (PySem.Str.ofString "law_keytables_k01_sets_of_columns") 626) none (PySem.Value.ref 431) (PySem.Value.none)), #[]⟩ := by kernel_rfl
theorem zh_law  : PySem.W.codeIn (head.heap_39 P) (PySem.Value.ref 431) "law" = true := by kernel_rfl
theorem zk_law  : PySem.W.keepIn (head.heap_39 P) (.ref 432) = true := by kernel_rfl
theorem yf_law  : Fun (head.heap_39 P) "law" "law" s_law adr.f_law adr.d_law := fun_mk (st := s_law) zl_law zh_law zk_law
theorem yb_law  : L2.Binds (head.heap_39 P) adr.d_law p_law [] := (fun_mk (st := s_law) zl_law zh_law zk_law).binds (ps := p_law) (fun _ _ _ _ _ _ us hl => match us, hl with | [_], _ => rfl)
theorem z_gN  : PySem.W.specialIn (head.heap_39 P) (.builtin "object.__class__") "__get__" = some (some (.builtin "getset_descriptor.__get__")) := by kernel_rfl
theorem z_gT  : PySem.W.takesIn (head.heap_39 P) (.builtin "object.__class__") = some true := by kernel_rfl
theorem ym_TableError (X : (head.heap_39 P).In h) (G : h.Ns mainGlobals mg) : mg "TableError" = some (.ref adr.c_TableError) := PySem.W.mg_of X G (by kernel_rfl)
theorem yx_TableError  : excAny (head.heap_39 P) adr.c_TableError = true := by kernel_rfl
theorem yo_TableError  : XCls (head.heap_39 P) adr.c_TableError := ⟨by kernel_rfl⟩
theorem yg_TableError  : XClass (head.heap_39 P) adr.c_TableError := ⟨⟨by kernel_rfl, by kernel_rfl, by kernel_rfl⟩, by kernel_rfl, by kernel_rfl, z_gN, z_gT, by kernel_rfl⟩
theorem yr_TableError  : (PySem.W.clsIn (head.heap_39 P) adr.c_TableError).map (·.mro) = some [.ref adr.c_TableError, .type "ValueError", .type "Exception", .type "BaseException", .type "object"] := by kernel_rfl
theorem yy_TableError  : PySem.W.typeIn (head.heap_39 P) (.ref adr.c_TableError) = some (.type "type") := by kernel_rfl
theorem ym_NoSet (X : (head.heap_39 P).In h) (G : h.Ns mainGlobals mg) : mg "NoSet" = some (.ref adr.c_NoSet) := PySem.W.mg_of X G (by kernel_rfl)
theorem yx_NoSet  : excAny (head.heap_39 P) adr.c_NoSet = true := by kernel_rfl
theorem yo_NoSet  : XCls (head.heap_39 P) adr.c_NoSet := ⟨by kernel_rfl⟩
theorem yg_NoSet  : XClass (head.heap_39 P) adr.c_NoSet := ⟨⟨by kernel_rfl, by kernel_rfl, by kernel_rfl⟩, by kernel_rfl, by kernel_rfl, z_gN, z_gT, by kernel_rfl⟩
theorem yr_NoSet  : (PySem.W.clsIn (head.heap_39 P) adr.c_NoSet).map (·.mro) = some [.ref adr.c_NoSet, .ref adr.c_TableError, .type "ValueError", .type "Exception", .type "BaseException", .type "object"] := by kernel_rfl
theorem yy_NoSet  : PySem.W.typeIn (head.heap_39 P) (.ref adr.c_NoSet) = some (.type "type") := by kernel_rfl
theorem ym_NoBook (X : (head.heap_39 P).In h) (G : h.Ns mainGlobals mg) : mg "NoBook" = some (.ref adr.c_NoBook) := PySem.W.mg_of X G (by kernel_rfl)
theorem yx_NoBook  : excAny (head.heap_39 P) adr.c_NoBook = true := by kernel_rfl
theorem yo_NoBook  : XCls (head.heap_39 P) adr.c_NoBook := ⟨by kernel_rfl⟩
theorem yg_NoBook  : XClass (head.heap_39 P) adr.c_NoBook := ⟨⟨by kernel_rfl, by kernel_rfl, by kernel_rfl⟩, by kernel_rfl, by kernel_rfl, z_gN, z_gT, by kernel_rfl⟩
theorem yr_NoBook  : (PySem.W.clsIn (head.heap_39 P) adr.c_NoBook).map (·.mro) = some [.ref adr.c_NoBook, .ref adr.c_TableError, .type "ValueError", .type "Exception", .type "BaseException", .type "object"] := by kernel_rfl
theorem yy_NoBook  : PySem.W.typeIn (head.heap_39 P) (.ref adr.c_NoBook) = some (.type "type") := by kernel_rfl
theorem ym_NoHanging (X : (head.heap_39 P).In h) (G : h.Ns mainGlobals mg) : mg "NoHanging" = some (.ref adr.c_NoHanging) := PySem.W.mg_of X G (by kernel_rfl)
theorem yx_NoHanging  : excAny (head.heap_39 P) adr.c_NoHanging = true := by kernel_rfl
theorem yo_NoHanging  : XCls (head.heap_39 P) adr.c_NoHanging := ⟨by kernel_rfl⟩
theorem yg_NoHanging  : XClass (head.heap_39 P) adr.c_NoHanging := ⟨⟨by kernel_rfl, by kernel_rfl, by kernel_rfl⟩, by kernel_rfl, by kernel_rfl, z_gN, z_gT, by kernel_rfl⟩
theorem yr_NoHanging  : (PySem.W.clsIn (head.heap_39 P) adr.c_NoHanging).map (·.mro) = some [.ref adr.c_NoHanging, .ref adr.c_TableError, .type "ValueError", .type "Exception", .type "BaseException", .type "object"] := by kernel_rfl
theorem yy_NoHanging  : PySem.W.typeIn (head.heap_39 P) (.ref adr.c_NoHanging) = some (.type "type") := by kernel_rfl
theorem ym_Unlike (X : (head.heap_39 P).In h) (G : h.Ns mainGlobals mg) : mg "Unlike" = some (.ref adr.c_Unlike) := PySem.W.mg_of X G (by kernel_rfl)
theorem yx_Unlike  : excAny (head.heap_39 P) adr.c_Unlike = true := by kernel_rfl
theorem yo_Unlike  : XCls (head.heap_39 P) adr.c_Unlike := ⟨by kernel_rfl⟩
theorem yg_Unlike  : XClass (head.heap_39 P) adr.c_Unlike := ⟨⟨by kernel_rfl, by kernel_rfl, by kernel_rfl⟩, by kernel_rfl, by kernel_rfl, z_gN, z_gT, by kernel_rfl⟩
theorem yr_Unlike  : (PySem.W.clsIn (head.heap_39 P) adr.c_Unlike).map (·.mro) = some [.ref adr.c_Unlike, .ref adr.c_TableError, .type "ValueError", .type "Exception", .type "BaseException", .type "object"] := by kernel_rfl
theorem yy_Unlike  : PySem.W.typeIn (head.heap_39 P) (.ref adr.c_Unlike) = some (.type "type") := by kernel_rfl
theorem ym_NoTable (X : (head.heap_39 P).In h) (G : h.Ns mainGlobals mg) : mg "NoTable" = some (.ref adr.c_NoTable) := PySem.W.mg_of X G (by kernel_rfl)
theorem yx_NoTable  : excAny (head.heap_39 P) adr.c_NoTable = true := by kernel_rfl
theorem yo_NoTable  : XCls (head.heap_39 P) adr.c_NoTable := ⟨by kernel_rfl⟩
theorem yg_NoTable  : XClass (head.heap_39 P) adr.c_NoTable := ⟨⟨by kernel_rfl, by kernel_rfl, by kernel_rfl⟩, by kernel_rfl, by kernel_rfl, z_gN, z_gT, by kernel_rfl⟩
theorem yr_NoTable  : (PySem.W.clsIn (head.heap_39 P) adr.c_NoTable).map (·.mro) = some [.ref adr.c_NoTable, .ref adr.c_TableError, .type "ValueError", .type "Exception", .type "BaseException", .type "object"] := by kernel_rfl
theorem yy_NoTable  : PySem.W.typeIn (head.heap_39 P) (.ref adr.c_NoTable) = some (.type "type") := by kernel_rfl
theorem ym_NoSplit (X : (head.heap_39 P).In h) (G : h.Ns mainGlobals mg) : mg "NoSplit" = some (.ref adr.c_NoSplit) := PySem.W.mg_of X G (by kernel_rfl)
theorem yx_NoSplit  : excAny (head.heap_39 P) adr.c_NoSplit = true := by kernel_rfl
theorem yo_NoSplit  : XCls (head.heap_39 P) adr.c_NoSplit := ⟨by kernel_rfl⟩
theorem yg_NoSplit  : XClass (head.heap_39 P) adr.c_NoSplit := ⟨⟨by kernel_rfl, by kernel_rfl, by kernel_rfl⟩, by kernel_rfl, by kernel_rfl, z_gN, z_gT, by kernel_rfl⟩
theorem yr_NoSplit  : (PySem.W.clsIn (head.heap_39 P) adr.c_NoSplit).map (·.mro) = some [.ref adr.c_NoSplit, .ref adr.c_TableError, .type "ValueError", .type "Exception", .type "BaseException", .type "object"] := by kernel_rfl
theorem yy_NoSplit  : PySem.W.typeIn (head.heap_39 P) (.ref adr.c_NoSplit) = some (.type "type") := by kernel_rfl
theorem ym_NoRow (X : (head.heap_39 P).In h) (G : h.Ns mainGlobals mg) : mg "NoRow" = some (.ref adr.c_NoRow) := PySem.W.mg_of X G (by kernel_rfl)
theorem yx_NoRow  : excAny (head.heap_39 P) adr.c_NoRow = true := by kernel_rfl
theorem yo_NoRow  : XCls (head.heap_39 P) adr.c_NoRow := ⟨by kernel_rfl⟩
theorem yg_NoRow  : XClass (head.heap_39 P) adr.c_NoRow := ⟨⟨by kernel_rfl, by kernel_rfl, by kernel_rfl⟩, by kernel_rfl, by kernel_rfl, z_gN, z_gT, by kernel_rfl⟩
theorem yr_NoRow  : (PySem.W.clsIn (head.heap_39 P) adr.c_NoRow).map (·.mro) = some [.ref adr.c_NoRow, .ref adr.c_TableError, .type "ValueError", .type "Exception", .type "BaseException", .type "object"] := by kernel_rfl
theorem yy_NoRow  : PySem.W.typeIn (head.heap_39 P) (.ref adr.c_NoRow) = some (.type "type") := by kernel_rfl
theorem ym_NoColumn (X : (head.heap_39 P).In h) (G : h.Ns mainGlobals mg) : mg "NoColumn" = some (.ref adr.c_NoColumn) := PySem.W.mg_of X G (by kernel_rfl)
theorem yx_NoColumn  : excAny (head.heap_39 P) adr.c_NoColumn = true := by kernel_rfl
theorem yo_NoColumn  : XCls (head.heap_39 P) adr.c_NoColumn := ⟨by kernel_rfl⟩
theorem yg_NoColumn  : XClass (head.heap_39 P) adr.c_NoColumn := ⟨⟨by kernel_rfl, by kernel_rfl, by kernel_rfl⟩, by kernel_rfl, by kernel_rfl, z_gN, z_gT, by kernel_rfl⟩
theorem yr_NoColumn  : (PySem.W.clsIn (head.heap_39 P) adr.c_NoColumn).map (·.mro) = some [.ref adr.c_NoColumn, .ref adr.c_TableError, .type "ValueError", .type "Exception", .type "BaseException", .type "object"] := by kernel_rfl
theorem yy_NoColumn  : PySem.W.typeIn (head.heap_39 P) (.ref adr.c_NoColumn) = some (.type "type") := by kernel_rfl
theorem ym_NoNumber (X : (head.heap_39 P).In h) (G : h.Ns mainGlobals mg) : mg "NoNumber" = some (.ref adr.c_NoNumber) := PySem.W.mg_of X G (by kernel_rfl)
theorem yx_NoNumber  : excAny (head.heap_39 P) adr.c_NoNumber = true := by kernel_rfl
theorem yo_NoNumber  : XCls (head.heap_39 P) adr.c_NoNumber := ⟨by kernel_rfl⟩
theorem yg_NoNumber  : XClass (head.heap_39 P) adr.c_NoNumber := ⟨⟨by kernel_rfl, by kernel_rfl, by kernel_rfl⟩, by kernel_rfl, by kernel_rfl, z_gN, z_gT, by kernel_rfl⟩
theorem yr_NoNumber  : (PySem.W.clsIn (head.heap_39 P) adr.c_NoNumber).map (·.mro) = some [.ref adr.c_NoNumber, .ref adr.c_TableError, .type "ValueError", .type "Exception", .type "BaseException", .type "object"] := by kernel_rfl
theorem yy_NoNumber  : PySem.W.typeIn (head.heap_39 P) (.ref adr.c_NoNumber) = some (.type "type") := by kernel_rfl
theorem ym_NoGiven (X : (head.heap_39 P).In h) (G : h.Ns mainGlobals mg) : mg "NoGiven" = some (.ref adr.c_NoGiven) := PySem.W.mg_of X G (by kernel_rfl)
theorem yx_NoGiven  : excAny (head.heap_39 P) adr.c_NoGiven = true := by kernel_rfl
theorem yo_NoGiven  : XCls (head.heap_39 P) adr.c_NoGiven := ⟨by kernel_rfl⟩
theorem yg_NoGiven  : XClass (head.heap_39 P) adr.c_NoGiven := ⟨⟨by kernel_rfl, by kernel_rfl, by kernel_rfl⟩, by kernel_rfl, by kernel_rfl, z_gN, z_gT, by kernel_rfl⟩
theorem yr_NoGiven  : (PySem.W.clsIn (head.heap_39 P) adr.c_NoGiven).map (·.mro) = some [.ref adr.c_NoGiven, .ref adr.c_TableError, .type "ValueError", .type "Exception", .type "BaseException", .type "object"] := by kernel_rfl
theorem yy_NoGiven  : PySem.W.typeIn (head.heap_39 P) (.ref adr.c_NoGiven) = some (.type "type") := by kernel_rfl
theorem ym_There (X : (head.heap_39 P).In h) (G : h.Ns mainGlobals mg) : mg "There" = some (.ref adr.c_There) := PySem.W.mg_of X G (by kernel_rfl)
theorem yx_There  : excAny (head.heap_39 P) adr.c_There = true := by kernel_rfl
theorem yo_There  : XCls (head.heap_39 P) adr.c_There := ⟨by kernel_rfl⟩
theorem yg_There  : XClass (head.heap_39 P) adr.c_There := ⟨⟨by kernel_rfl, by kernel_rfl, by kernel_rfl⟩, by kernel_rfl, by kernel_rfl, z_gN, z_gT, by kernel_rfl⟩
theorem yr_There  : (PySem.W.clsIn (head.heap_39 P) adr.c_There).map (·.mro) = some [.ref adr.c_There, .ref adr.c_TableError, .type "ValueError", .type "Exception", .type "BaseException", .type "object"] := by kernel_rfl
theorem yy_There  : PySem.W.typeIn (head.heap_39 P) (.ref adr.c_There) = some (.type "type") := by kernel_rfl
theorem ym_Gone (X : (head.heap_39 P).In h) (G : h.Ns mainGlobals mg) : mg "Gone" = some (.ref adr.c_Gone) := PySem.W.mg_of X G (by kernel_rfl)
theorem yx_Gone  : excAny (head.heap_39 P) adr.c_Gone = true := by kernel_rfl
theorem yo_Gone  : XCls (head.heap_39 P) adr.c_Gone := ⟨by kernel_rfl⟩
theorem yg_Gone  : XClass (head.heap_39 P) adr.c_Gone := ⟨⟨by kernel_rfl, by kernel_rfl, by kernel_rfl⟩, by kernel_rfl, by kernel_rfl, z_gN, z_gT, by kernel_rfl⟩
theorem yr_Gone  : (PySem.W.clsIn (head.heap_39 P) adr.c_Gone).map (·.mro) = some [.ref adr.c_Gone, .ref adr.c_TableError, .type "ValueError", .type "Exception", .type "BaseException", .type "object"] := by kernel_rfl
theorem yy_Gone  : PySem.W.typeIn (head.heap_39 P) (.ref adr.c_Gone) = some (.type "type") := by kernel_rfl
theorem ym_NoDeeds (X : (head.heap_39 P).In h) (G : h.Ns mainGlobals mg) : mg "NoDeeds" = some (.ref adr.c_NoDeeds) := PySem.W.mg_of X G (by kernel_rfl)
theorem yx_NoDeeds  : excAny (head.heap_39 P) adr.c_NoDeeds = true := by kernel_rfl
theorem yo_NoDeeds  : XCls (head.heap_39 P) adr.c_NoDeeds := ⟨by kernel_rfl⟩
theorem yg_NoDeeds  : XClass (head.heap_39 P) adr.c_NoDeeds := ⟨⟨by kernel_rfl, by kernel_rfl, by kernel_rfl⟩, by kernel_rfl, by kernel_rfl, z_gN, z_gT, by kernel_rfl⟩
theorem yr_NoDeeds  : (PySem.W.clsIn (head.heap_39 P) adr.c_NoDeeds).map (·.mro) = some [.ref adr.c_NoDeeds, .ref adr.c_TableError, .type "ValueError", .type "Exception", .type "BaseException", .type "object"] := by kernel_rfl
theorem yy_NoDeeds  : PySem.W.typeIn (head.heap_39 P) (.ref adr.c_NoDeeds) = some (.type "type") := by kernel_rfl
theorem ym_NoDeed (X : (head.heap_39 P).In h) (G : h.Ns mainGlobals mg) : mg "NoDeed" = some (.ref adr.c_NoDeed) := PySem.W.mg_of X G (by kernel_rfl)
theorem yx_NoDeed  : excAny (head.heap_39 P) adr.c_NoDeed = true := by kernel_rfl
theorem yo_NoDeed  : XCls (head.heap_39 P) adr.c_NoDeed := ⟨by kernel_rfl⟩
theorem yg_NoDeed  : XClass (head.heap_39 P) adr.c_NoDeed := ⟨⟨by kernel_rfl, by kernel_rfl, by kernel_rfl⟩, by kernel_rfl, by kernel_rfl, z_gN, z_gT, by kernel_rfl⟩
theorem yr_NoDeed  : (PySem.W.clsIn (head.heap_39 P) adr.c_NoDeed).map (·.mro) = some [.ref adr.c_NoDeed, .ref adr.c_TableError, .type "ValueError", .type "Exception", .type "BaseException", .type "object"] := by kernel_rfl
theorem yy_NoDeed  : PySem.W.typeIn (head.heap_39 P) (.ref adr.c_NoDeed) = some (.type "type") := by kernel_rfl
theorem ym_NoText (X : (head.heap_39 P).In h) (G : h.Ns mainGlobals mg) : mg "NoText" = some (.ref adr.c_NoText) := PySem.W.mg_of X G (by kernel_rfl)
theorem yx_NoText  : excAny (head.heap_39 P) adr.c_NoText = true := by kernel_rfl
theorem yo_NoText  : XCls (head.heap_39 P) adr.c_NoText := ⟨by kernel_rfl⟩
theorem yg_NoText  : XClass (head.heap_39 P) adr.c_NoText := ⟨⟨by kernel_rfl, by kernel_rfl, by kernel_rfl⟩, by kernel_rfl, by kernel_rfl, z_gN, z_gT, by kernel_rfl⟩
theorem yr_NoText  : (PySem.W.clsIn (head.heap_39 P) adr.c_NoText).map (·.mro) = some [.ref adr.c_NoText, .ref adr.c_TableError, .type "ValueError", .type "Exception", .type "BaseException", .type "object"] := by kernel_rfl
theorem yy_NoText  : PySem.W.typeIn (head.heap_39 P) (.ref adr.c_NoText) = some (.type "type") := by kernel_rfl
theorem ym_NoLine (X : (head.heap_39 P).In h) (G : h.Ns mainGlobals mg) : mg "NoLine" = some (.ref adr.c_NoLine) := PySem.W.mg_of X G (by kernel_rfl)
theorem yx_NoLine  : excAny (head.heap_39 P) adr.c_NoLine = true := by kernel_rfl
theorem yo_NoLine  : XCls (head.heap_39 P) adr.c_NoLine := ⟨by kernel_rfl⟩
theorem yg_NoLine  : XClass (head.heap_39 P) adr.c_NoLine := ⟨⟨by kernel_rfl, by kernel_rfl, by kernel_rfl⟩, by kernel_rfl, by kernel_rfl, z_gN, z_gT, by kernel_rfl⟩
theorem yr_NoLine  : (PySem.W.clsIn (head.heap_39 P) adr.c_NoLine).map (·.mro) = some [.ref adr.c_NoLine, .ref adr.c_TableError, .type "ValueError", .type "Exception", .type "BaseException", .type "object"] := by kernel_rfl
theorem yy_NoLine  : PySem.W.typeIn (head.heap_39 P) (.ref adr.c_NoLine) = some (.type "type") := by kernel_rfl
theorem ym_NoName (X : (head.heap_39 P).In h) (G : h.Ns mainGlobals mg) : mg "NoName" = some (.ref adr.c_NoName) := PySem.W.mg_of X G (by kernel_rfl)
theorem yx_NoName  : excAny (head.heap_39 P) adr.c_NoName = true := by kernel_rfl
theorem yo_NoName  : XCls (head.heap_39 P) adr.c_NoName := ⟨by kernel_rfl⟩
theorem yg_NoName  : XClass (head.heap_39 P) adr.c_NoName := ⟨⟨by kernel_rfl, by kernel_rfl, by kernel_rfl⟩, by kernel_rfl, by kernel_rfl, z_gN, z_gT, by kernel_rfl⟩
theorem yr_NoName  : (PySem.W.clsIn (head.heap_39 P) adr.c_NoName).map (·.mro) = some [.ref adr.c_NoName, .ref adr.c_TableError, .type "ValueError", .type "Exception", .type "BaseException", .type "object"] := by kernel_rfl
theorem yy_NoName  : PySem.W.typeIn (head.heap_39 P) (.ref adr.c_NoName) = some (.type "type") := by kernel_rfl
theorem ym_TooWide (X : (head.heap_39 P).In h) (G : h.Ns mainGlobals mg) : mg "TooWide" = some (.ref adr.c_TooWide) := PySem.W.mg_of X G (by kernel_rfl)
theorem yx_TooWide  : excAny (head.heap_39 P) adr.c_TooWide = true := by kernel_rfl
theorem yg_TooWide  : XClass (head.heap_39 P) adr.c_TooWide := ⟨⟨by kernel_rfl, by kernel_rfl, by kernel_rfl⟩, by kernel_rfl, by kernel_rfl, z_gN, z_gT, by kernel_rfl⟩
theorem yr_TooWide  : (PySem.W.clsIn (head.heap_39 P) adr.c_TooWide).map (·.mro) = some [.ref adr.c_TooWide, .ref adr.c_TableError, .type "ValueError", .type "Exception", .type "BaseException", .type "object"] := by kernel_rfl
theorem yy_TooWide  : PySem.W.typeIn (head.heap_39 P) (.ref adr.c_TooWide) = some (.type "type") := by kernel_rfl
theorem ym_TooMany (X : (head.heap_39 P).In h) (G : h.Ns mainGlobals mg) : mg "TooMany" = some (.ref adr.c_TooMany) := PySem.W.mg_of X G (by kernel_rfl)
theorem yx_TooMany  : excAny (head.heap_39 P) adr.c_TooMany = true := by kernel_rfl
theorem yg_TooMany  : XClass (head.heap_39 P) adr.c_TooMany := ⟨⟨by kernel_rfl, by kernel_rfl, by kernel_rfl⟩, by kernel_rfl, by kernel_rfl, z_gN, z_gT, by kernel_rfl⟩
theorem yr_TooMany  : (PySem.W.clsIn (head.heap_39 P) adr.c_TooMany).map (·.mro) = some [.ref adr.c_TooMany, .ref adr.c_TableError, .type "ValueError", .type "Exception", .type "BaseException", .type "object"] := by kernel_rfl
theorem yy_TooMany  : PySem.W.typeIn (head.heap_39 P) (.ref adr.c_TooMany) = some (.type "type") := by kernel_rfl
theorem ym_Broken (X : (head.heap_39 P).In h) (G : h.Ns mainGlobals mg) : mg "Broken" = some (.ref adr.c_Broken) := PySem.W.mg_of X G (by kernel_rfl)
theorem yx_Broken  : excAny (head.heap_39 P) adr.c_Broken = true := by kernel_rfl
theorem yg_Broken  : XClass (head.heap_39 P) adr.c_Broken := ⟨⟨by kernel_rfl, by kernel_rfl, by kernel_rfl⟩, by kernel_rfl, by kernel_rfl, z_gN, z_gT, by kernel_rfl⟩
theorem yr_Broken  : (PySem.W.clsIn (head.heap_39 P) adr.c_Broken).map (·.mro) = some [.ref adr.c_Broken, .ref adr.c_TableError, .type "ValueError", .type "Exception", .type "BaseException", .type "object"] := by kernel_rfl
theorem yy_Broken  : PySem.W.typeIn (head.heap_39 P) (.ref adr.c_Broken) = some (.type "type") := by kernel_rfl
theorem y_nd  : [adr.c_TableError, adr.c_NoSet, adr.c_NoBook, adr.c_NoHanging, adr.c_Unlike, adr.c_NoTable, adr.c_NoSplit, adr.c_NoRow, adr.c_NoColumn, adr.c_NoNumber, adr.c_NoGiven, adr.c_There, adr.c_Gone, adr.c_NoDeeds, adr.c_NoDeed, adr.c_NoText, adr.c_NoLine, adr.c_NoName, adr.c_TooWide, adr.c_TooMany, adr.c_Broken].Nodup := (by decide : [24, 37, 49, 61, 73, 85, 97, 109, 121, 133, 145, 157, 169, 181, 193, 205, 217, 229, 250, 271, 292].Nodup)
theorem ym_COLUMNS (X : (head.heap_39 P).In h) (G : h.Ns mainGlobals mg) : ∃ tk, mg "COLUMNS" = some (.str "abcdefgh" tk) := ⟨_, PySem.W.mg_of (v := .str "abcdefgh" 570) X G (by kernel_rfl)⟩
theorem yn_ValueError (X : (head.heap_39 P).In h) (G : h.Ns mainGlobals mg) : mg "ValueError" = none := PySem.W.mg_none_of X G (by kernel_rfl)
theorem yn_all (X : (head.heap_39 P).In h) (G : h.Ns mainGlobals mg) : mg "all" = none := PySem.W.mg_none_of X G (by kernel_rfl)
theorem yn_int (X : (head.heap_39 P).In h) (G : h.Ns mainGlobals mg) : mg "int" = none := PySem.W.mg_none_of X G (by kernel_rfl)
theorem yn_isinstance (X : (head.heap_39 P).In h) (G : h.Ns mainGlobals mg) : mg "isinstance" = none := PySem.W.mg_none_of X G (by kernel_rfl)
theorem yn_len (X : (head.heap_39 P).In h) (G : h.Ns mainGlobals mg) : mg "len" = none := PySem.W.mg_none_of X G (by kernel_rfl)
theorem yn_list (X : (head.heap_39 P).In h) (G : h.Ns mainGlobals mg) : mg "list" = none := PySem.W.mg_none_of X G (by kernel_rfl)
theorem yn_max (X : (head.heap_39 P).In h) (G : h.Ns mainGlobals mg) : mg "max" = none := PySem.W.mg_none_of X G (by kernel_rfl)
theorem yn_min (X : (head.heap_39 P).In h) (G : h.Ns mainGlobals mg) : mg "min" = none := PySem.W.mg_none_of X G (by kernel_rfl)
theorem yn_range (X : (head.heap_39 P).In h) (G : h.Ns mainGlobals mg) : mg "range" = none := PySem.W.mg_none_of X G (by kernel_rfl)
theorem yn_repr (X : (head.heap_39 P).In h) (G : h.Ns mainGlobals mg) : mg "repr" = none := PySem.W.mg_none_of X G (by kernel_rfl)
theorem yn_set (X : (head.heap_39 P).In h) (G : h.Ns mainGlobals mg) : mg "set" = none := PySem.W.mg_none_of X G (by kernel_rfl)
theorem yn_sorted (X : (head.heap_39 P).In h) (G : h.Ns mainGlobals mg) : mg "sorted" = none := PySem.W.mg_none_of X G (by kernel_rfl)
theorem yn_str (X : (head.heap_39 P).In h) (G : h.Ns mainGlobals mg) : mg "str" = none := PySem.W.mg_none_of X G (by kernel_rfl)
theorem yn_super (X : (head.heap_39 P).In h) (G : h.Ns mainGlobals mg) : mg "super" = none := PySem.W.mg_none_of X G (by kernel_rfl)
theorem txt_all (X : (head.heap_39 P).In h) (G : h.Ns mainGlobals mg) : Txt (head.heap_39 P) mg adr :=
  ⟨ym_is_set X G,
   yf_is_set,
   yb_is_set,
   ym_both X G,
   yf_both,
   yb_both,
   ym_either X G,
   yf_either,
   yb_either,
   ym_lacked X G,
   yf_lacked,
   yb_lacked,
   ym_lies_in X G,
   yf_lies_in,
   yb_lies_in,
   ym_need_set X G,
   yf_need_set,
   yb_need_set,
   ym_set_of X G,
   yf_set_of,
   yb_set_of,
   ym_is_within X G,
   yf_is_within,
   yb_is_within,
   ym_cell_at X G,
   yf_cell_at,
   yb_cell_at,
   ym_state X G,
   yf_state,
   yb_state,
   ym_choice X G,
   yf_choice,
   yb_choice,
   ym_same X G,
   yf_same,
   yb_same,
   ym_marks X G,
   yf_marks,
   yb_marks,
   ym_said X G,
   yf_said,
   yb_said,
   ym_bits X G,
   yf_bits,
   yb_bits,
   ym_head X G,
   yf_head,
   yb_head,
   ym_pick X G,
   yf_pick,
   yb_pick,
   ym_text_bent X G,
   yf_text_bent,
   yb_text_bent,
   ym_l_is_set X G,
   yf_l_is_set,
   yb_l_is_set,
   ym_pair_right X G,
   yf_pair_right,
   yb_pair_right,
   ym_refused_right X G,
   yf_refused_right,
   yb_refused_right,
   yc_refused_right,
   yh_refused_right,
   ym_law X G,
   yf_law,
   yb_law,
   ym_TableError X G,
   yx_TableError,
   yo_TableError,
   yg_TableError,
   yr_TableError,
   yy_TableError,
   ym_NoSet X G,
   yx_NoSet,
   yo_NoSet,
   yg_NoSet,
   yr_NoSet,
   yy_NoSet,
   ym_NoBook X G,
   yx_NoBook,
   yo_NoBook,
   yg_NoBook,
   yr_NoBook,
   yy_NoBook,
   ym_NoHanging X G,
   yx_NoHanging,
   yo_NoHanging,
   yg_NoHanging,
   yr_NoHanging,
   yy_NoHanging,
   ym_Unlike X G,
   yx_Unlike,
   yo_Unlike,
   yg_Unlike,
   yr_Unlike,
   yy_Unlike,
   ym_NoTable X G,
   yx_NoTable,
   yo_NoTable,
   yg_NoTable,
   yr_NoTable,
   yy_NoTable,
   ym_NoSplit X G,
   yx_NoSplit,
   yo_NoSplit,
   yg_NoSplit,
   yr_NoSplit,
   yy_NoSplit,
   ym_NoRow X G,
   yx_NoRow,
   yo_NoRow,
   yg_NoRow,
   yr_NoRow,
   yy_NoRow,
   ym_NoColumn X G,
   yx_NoColumn,
   yo_NoColumn,
   yg_NoColumn,
   yr_NoColumn,
   yy_NoColumn,
   ym_NoNumber X G,
   yx_NoNumber,
   yo_NoNumber,
   yg_NoNumber,
   yr_NoNumber,
   yy_NoNumber,
   ym_NoGiven X G,
   yx_NoGiven,
   yo_NoGiven,
   yg_NoGiven,
   yr_NoGiven,
   yy_NoGiven,
   ym_There X G,
   yx_There,
   yo_There,
   yg_There,
   yr_There,
   yy_There,
   ym_Gone X G,
   yx_Gone,
   yo_Gone,
   yg_Gone,
   yr_Gone,
   yy_Gone,
   ym_NoDeeds X G,
   yx_NoDeeds,
   yo_NoDeeds,
   yg_NoDeeds,
   yr_NoDeeds,
   yy_NoDeeds,
   ym_NoDeed X G,
   yx_NoDeed,
   yo_NoDeed,
   yg_NoDeed,
   yr_NoDeed,
   yy_NoDeed,
   ym_NoText X G,
   yx_NoText,
   yo_NoText,
   yg_NoText,
   yr_NoText,
   yy_NoText,
   ym_NoLine X G,
   yx_NoLine,
   yo_NoLine,
   yg_NoLine,
   yr_NoLine,
   yy_NoLine,
   ym_NoName X G,
   yx_NoName,
   yo_NoName,
   yg_NoName,
   yr_NoName,
   yy_NoName,
   ym_TooWide X G,
   yx_TooWide,
   yg_TooWide,
   yr_TooWide,
   yy_TooWide,
   ym_TooMany X G,
   yx_TooMany,
   yg_TooMany,
   yr_TooMany,
   yy_TooMany,
   ym_Broken X G,
   yx_Broken,
   yg_Broken,
   yr_Broken,
   yy_Broken,
   y_nd,
   ym_COLUMNS X G,
   yn_ValueError X G,
   yn_all X G,
   yn_int X G,
   yn_isinstance X G,
   yn_len X G,
   yn_list X G,
   yn_max X G,
   yn_min X G,
   yn_range X G,
   yn_repr X G,
   yn_set X G,
   yn_sorted X G,
   yn_str X G,
   yn_super X G⟩
end M

set_option maxRecDepth 100000
set_option linter.all false
namespace Ti
open PySem PyProof.Rows
def gallop' : Bool → Keyed → Array Keyed → Nat → Nat → Nat → StateT SortSt Sem (Option Nat) := sortPriv% PySem.Builtin.gallop
variable {prog : Program} {w : World} {A : Around} {E : Value → Shared → Prop} {s : Shared} {κ : SortKind}

theorem wpS_elem {arr : Array Keyed} {i : Nat} {p : Keyed} {Q : Keyed → SortSt → Prop} {st : SortSt} (h : arr[i]? = some p) (q : Q p st) : wpS (model prog w) A E s (elem' arr i) Q st := by
  rw [elem'_eq, h]
  exact wpS_pure q
/-- the question of a gallop -/
def ask (left : Bool) (key : Keyed) (arr : Array Keyed) (base i : Nat) : StateT SortSt Sem (Option Bool) :=
  elem' arr (base + i) >>= fun x => if left = true then lt' x key else lt' key x >>= fun b => pure (Option.map (fun b => !b) b)
/-- the last loop: between lo and hi by halves -/
theorem wpS_halves {n : Nat} {B : Nat → Bool} {st : SortSt} {Q : Option (Option Nat) × Nat × Nat → SortSt → Prop} {f : Nat → Option (Option Nat) × Nat × Nat → StateT SortSt Sem (ForInStep (Option (Option Nat) × Nat × Nat))}
    (f0 : ∀ x lo hi R, hi ≤ lo → R (.done (none, lo, hi)) st → wpS (model prog w) A E s (f x (none, lo, hi)) R st)
    (f1 : ∀ x lo hi R, lo < hi → hi ≤ n → (B (lo + (hi - lo) / 2) = true → R (.yield (none, lo + (hi - lo) / 2 + 1, hi)) st) → (B (lo + (hi - lo) / 2) = false → R (.yield (none, lo, lo + (hi - lo) / 2)) st) → wpS (model prog w) A E s (f x (none, lo, hi)) R st)
    (anti : ∀ i j, i ≤ j → j < n → B j = true → B i = true) {lo hi : Nat} (h1 : lo ≤ hi) (h2 : hi ≤ n) (h3 : ∀ i, i < lo → B i = true) (h4 : ∀ i, hi ≤ i → i < n → B i = false)
    (h : ∀ k, k ≤ n → (∀ i, i < k → B i = true) → (∀ i, k ≤ i → i < n → B i = false) → Q (none, k, k) st) : wpS (model prog w) A E s (forIn [:n] (none, lo, hi) f) Q st := by
  refine wpS_forRange (I := fun x c st' => st' = st ∧ ∃ lo hi, c = (none, lo, hi) ∧ lo ≤ hi ∧ hi ≤ n ∧ hi - lo + x ≤ n ∧ (∀ i, i < lo → B i = true) ∧ (∀ i, hi ≤ i → i < n → B i = false)) ?_ ?_ ⟨rfl, lo, hi, rfl, h1, h2, by omega, h3, h4⟩
  · rintro x c st' _ hx ⟨rfl, lo, hi, rfl, a1, a2, a3, a4, a5⟩
    by_cases hl : lo < hi
    · refine f1 x lo hi _ hl a2 (fun hb => ⟨rfl, _, _, rfl, by omega, a2, by omega, fun i hi' => ?_, a5⟩) (fun hb => ⟨rfl, _, _, rfl, by omega, by omega, by omega, a4, fun i hi' hn => ?_⟩)
      · exact anti i _ (by omega) (by omega) hb
      · cases e : B i with
        | false => rfl
        | true => rw [anti _ i hi' hn e] at hb; cases hb
    · have : lo = hi := by omega
      subst this
      exact f0 x lo lo _ (Nat.le_refl _) (h lo a2 a4 a5)
  · rintro c st' ⟨rfl, lo, hi, rfl, a1, a2, a3, a4, a5⟩
    have : lo = hi := by omega
    subst this
    exact h lo a2 a4 a5
theorem wpS_gallop {left : Bool} {key : Keyed} {arr : Array Keyed} {base n hint : Nat} {st : SortSt} {Q : Option Nat → SortSt → Prop} (B : Nat → Bool)
    (hb : ∀ i, i < n → ∀ R : Option Bool → SortSt → Prop, R (some (B i)) st → wpS (model prog w) A E s (ask left key arr base i) R st)
    (anti : ∀ i j, i ≤ j → j < n → B j = true → B i = true) (hh : hint < n)
    (h : ∀ k, k ≤ n → (∀ i, i < k → B i = true) → (∀ i, k ≤ i → i < n → B i = false) → Q (some k) st) : wpS (model prog w) A E s (gallop' left key arr base n hint) Q st := by
  refine wpS_bind (hb hint hh _ ?_)
  dsimp only
  cases hB : B hint with
  | true =>
    rw [if_pos rfl]
    refine wpS_bind (wpS_mono (wpS_forRange (a := 0) (b := n) (I := fun x c st' => st' = st ∧ ∃ la of, c = (none, la, of) ∧ la < of ∧ x < of ∧ hint + la < n ∧ B (hint + la) = true)
      (Q := fun c st' => st' = st ∧ ∃ la of, c = (none, la, of) ∧ la < of ∧ hint + la < n ∧ B (hint + la) = true ∧ (n - hint ≤ of ∨ (hint + of < n ∧ B (hint + of) = false))) ?_ ?_ ⟨rfl, 0, 1, rfl, by omega, by omega, by omega, by simpa using hB⟩) ?_)
    · rintro x c st' _ hx ⟨rfl, la, of, rfl, a1, a2, a3, a4⟩
      dsimp only
      by_cases ho : of ≥ n - hint
      · rw [if_pos ho]
        exact wpS_pure ⟨rfl, la, of, rfl, a1, a3, a4, .inl ho⟩
      · rw [if_neg ho]
        refine wpS_bind (hb (hint + of) (by omega) _ ?_)
        dsimp only
        cases e : B (hint + of) with
        | true =>
          exact wpS_pure ⟨rfl, of, 2 * of + 1, rfl, by omega, by omega, by omega, e⟩
        | false =>
          exact wpS_pure ⟨rfl, la, of, rfl, a1, a3, a4, .inr ⟨by omega, e⟩⟩
    · rintro c st' ⟨rfl, la, of, rfl, a1, a2, a3, a4⟩
      exact ⟨rfl, la, of, rfl, a1, a3, a4, .inl (by omega)⟩
    · rintro c st' ⟨rfl, la, of, rfl, a1, a2, a3, a4⟩
      dsimp only
      refine wpS_bind (wpS_halves (B := B) (fun x lo hi R hle q => ?_) (fun x lo hi R hlt hn q1 q2 => ?_) anti (by omega) (by omega) (fun i hi' => anti i _ (by omega) a2 a3) (fun i hi' hn => ?_) (fun k k1 k2 k3 => wpS_pure (h k k1 k2 k3)))
      · dsimp only
        rw [if_pos hle]
        exact wpS_pure q
      · dsimp only
        rw [if_neg (by omega)]
        refine wpS_bind (hb _ (by omega) _ ?_)
        dsimp only
        cases e : B (lo + (hi - lo) / 2) with
        | true => exact wpS_pure (q1 e)
        | false => exact wpS_pure (q2 e)
      · rcases a4 with a4 | ⟨a4, a5⟩
        · omega
        · cases e : B i with
          | false => rfl
          | true => rw [anti _ i (by omega) hn e] at a5; cases a5
  | false =>
    rw [if_neg Bool.false_ne_true]
    refine wpS_bind (wpS_mono (wpS_forRange (a := 0) (b := n) (I := fun x c st' => st' = st ∧ ∃ la of, c = (none, la, of) ∧ la < of ∧ x < of ∧ la ≤ hint ∧ B (hint - la) = false)
      (Q := fun c st' => st' = st ∧ ∃ la of, c = (none, la, of) ∧ la < of ∧ la ≤ hint ∧ B (hint - la) = false ∧ (hint + 1 ≤ of ∨ (of ≤ hint ∧ B (hint - of) = true))) ?_ ?_ ⟨rfl, 0, 1, rfl, by omega, by omega, by omega, by simpa using hB⟩) ?_)
    · rintro x c st' _ hx ⟨rfl, la, of, rfl, a1, a2, a3, a4⟩
      dsimp only
      by_cases ho : of ≥ hint + 1
      · rw [if_pos ho]
        exact wpS_pure ⟨rfl, la, of, rfl, a1, a3, a4, .inl ho⟩
      · rw [if_neg ho]
        refine wpS_bind (hb (hint - of) (by omega) _ ?_)
        dsimp only
        cases e : B (hint - of) with
        | true =>
          exact wpS_pure ⟨rfl, la, of, rfl, a1, a3, a4, .inr ⟨by omega, e⟩⟩
        | false =>
          exact wpS_pure ⟨rfl, of, 2 * of + 1, rfl, by omega, by omega, by omega, e⟩
    · rintro c st' ⟨rfl, la, of, rfl, a1, a2, a3, a4⟩
      exact ⟨rfl, la, of, rfl, a1, a3, a4, .inl (by omega)⟩
    · rintro c st' ⟨rfl, la, of, rfl, a1, a2, a3, a4⟩
      dsimp only
      have hfl : ∀ i, hint - la ≤ i → i < n → B i = false := fun i hi' hn => by
        cases e : B i with
        | false => rfl
        | true => rw [anti _ i hi' hn e] at a3; cases a3
      refine wpS_bind (wpS_halves (B := B) (fun x lo hi R hle q => ?_) (fun x lo hi R hlt hn q1 q2 => ?_) anti (by omega) (by omega) (fun i hi' => ?_) hfl (fun k k1 k2 k3 => wpS_pure (h k k1 k2 k3)))
      · dsimp only
        rw [if_pos hle]
        exact wpS_pure q
      · dsimp only
        rw [if_neg (by omega)]
        refine wpS_bind (hb _ (by omega) _ ?_)
        dsimp only
        cases e : B (lo + (hi - lo) / 2) with
        | true => exact wpS_pure (q1 e)
        | false => exact wpS_pure (q2 e)
      · rcases a4 with a4 | ⟨a4, a5⟩
        · omega
        · exact anti i _ (by omega) (by omega) a5
end Ti

set_option maxRecDepth 100000
set_option linter.all false
namespace Ti
open PySem PyProof.Rows
/-! ### two rising rows, put together -/
abbrev Ris (ρ : Keyed → Nat) (l : List Keyed) : Prop := l.Pairwise fun x y => ρ x ≤ ρ y
abbrev Le (ρ : Keyed → Nat) (l m : List Keyed) : Prop := ∀ x ∈ l, ∀ y ∈ m, ρ x ≤ ρ y
structure J (ρ : Keyed → Nat) (la lb o : List Keyed) (ia ib : Nat) : Prop where
  pm : o.Perm (la.take ia ++ lb.take ib)
  so : Ris ρ o
  ra : Le ρ o (la.drop ia)
  rb : Le ρ o (lb.drop ib)
variable {ρ : Keyed → Nat} {la lb o : List Keyed} {ia ib : Nat}
theorem J.swap (h : J ρ la lb o ia ib) : J ρ lb la o ib ia := ⟨h.pm.trans List.perm_append_comm, h.so, h.rb, h.ra⟩
theorem J.nil : J ρ la lb [] 0 0 := ⟨by simp, .nil, fun _ h => by simp at h, fun _ h => by simp at h⟩
theorem ris_take {l : List Keyed} (h : Ris ρ l) (k : Nat) : Ris ρ (l.take k) := h.sublist (List.take_sublist _ _)
theorem ris_drop {l : List Keyed} (h : Ris ρ l) (k : Nat) : Ris ρ (l.drop k) := h.sublist (List.drop_sublist _ _)
theorem ris_cut {l : List Keyed} (h : Ris ρ l) (k : Nat) : Le ρ (l.take k) (l.drop k) := by
  have e : l = l.take k ++ l.drop k := (List.take_append_drop k l).symm
  unfold Ris at h
  rw [e, List.pairwise_append] at h
  exact h.2.2
theorem J.blockA (h : J ρ la lb o ia ib) (sa : Ris ρ la) (k : Nat) (hk : Le ρ ((la.drop ia).take k) (lb.drop ib)) : J ρ la lb (o ++ (la.drop ia).take k) (ia + k) ib := by
  have ed : la.drop (ia + k) = (la.drop ia).drop k := by rw [List.drop_drop]
  refine ⟨?_, ?_, fun x hx y hy => ?_, fun x hx y hy => ?_⟩
  · rw [List.take_add]
    have h1 := h.pm.append_right ((la.drop ia).take k)
    refine h1.trans ?_
    rw [List.append_assoc, List.append_assoc]
    exact (List.perm_append_comm).append_left _
  · exact List.pairwise_append.mpr ⟨h.so, ris_take (ris_drop sa _) _, fun x hx y hy => h.ra x hx y (List.mem_of_mem_take hy)⟩
  · rw [ed] at hy
    rcases List.mem_append.mp hx with hx | hx
    · exact h.ra x hx y (List.mem_of_mem_drop hy)
    · exact ris_cut (ris_drop sa ia) k x hx y hy
  · rcases List.mem_append.mp hx with hx | hx
    · exact h.rb x hx y hy
    · exact hk x hx y hy
theorem J.blockB (h : J ρ la lb o ia ib) (sb : Ris ρ lb) (k : Nat) (hk : Le ρ ((lb.drop ib).take k) (la.drop ia)) : J ρ la lb (o ++ (lb.drop ib).take k) ia (ib + k) := (h.swap.blockA sb k hk).swap
/-- done: the rest of the first, then that of the second -/
theorem J.doneA (h : J ρ la lb o ia ib) (sa : Ris ρ la) (sb : Ris ρ lb) (hk : Le ρ (la.drop ia) (lb.drop ib)) : (o ++ la.drop ia ++ lb.drop ib).Perm (la ++ lb) ∧ Ris ρ (o ++ la.drop ia ++ lb.drop ib) := by
  have e1 : (la.drop ia).take la.length = la.drop ia := List.take_of_length_le (by rw [List.length_drop]; omega)
  have e2 : (lb.drop ib).take lb.length = lb.drop ib := List.take_of_length_le (by rw [List.length_drop]; omega)
  have h1 := h.blockA sa la.length (by rw [e1]; exact hk)
  rw [e1] at h1
  have ed : la.drop (ia + la.length) = [] := List.drop_of_length_le (by omega)
  have h2 := h1.blockB sb lb.length (by rw [e2, ed]; exact fun x _ y hy => by simp at hy)
  rw [e2] at h2
  refine ⟨?_, h2.so⟩
  have h3 := h2.pm
  rw [List.take_of_length_le (by omega), List.take_of_length_le (by omega)] at h3
  exact h3
theorem J.doneB (h : J ρ la lb o ia ib) (sa : Ris ρ la) (sb : Ris ρ lb) (hk : Le ρ (lb.drop ib) (la.drop ia)) : (o ++ lb.drop ib ++ la.drop ia).Perm (la ++ lb) ∧ Ris ρ (o ++ lb.drop ib ++ la.drop ia) := by
  obtain ⟨h1, h2⟩ := h.swap.doneA sb sa hk
  exact ⟨h1.trans List.perm_append_comm, h2⟩
theorem take_one {l : List Keyed} {i : Nat} {p : Keyed} (h : l[i]? = some p) : (l.drop i).take 1 = [p] := by
  obtain ⟨hi, e⟩ := List.getElem?_eq_some_iff.mp h
  rw [List.drop_eq_getElem_cons hi, e]
  rfl
theorem mem_drop_get {l : List Keyed} {i : Nat} {y : Keyed} (h : y ∈ l.drop i) : ∃ j, i ≤ j ∧ l[j]? = some y := by
  obtain ⟨n, hn⟩ := List.getElem?_of_mem h
  rw [List.getElem?_drop] at hn
  exact ⟨i + n, by omega, hn⟩
/-- the first that is left is the least -/
theorem first_le {l : List Keyed} (h : Ris ρ l) {i j : Nat} {p q : Keyed} (hp : l[i]? = some p) (hq : l[j]? = some q) (hij : i ≤ j) : ρ p ≤ ρ q := by
  obtain ⟨h1, e1⟩ := List.getElem?_eq_some_iff.mp hp
  obtain ⟨h2, e2⟩ := List.getElem?_eq_some_iff.mp hq
  rcases Nat.lt_or_ge i j with hlt | hge
  · have := List.pairwise_iff_getElem.mp h i j h1 h2 hlt
    rw [e1, e2] at this
    exact this
  · have : i = j := by omega
    subst this
    rw [hp] at hq
    cases hq
    exact Nat.le_refl _
theorem le_drop {l : List Keyed} (h : Ris ρ l) {i : Nat} {p : Keyed} (hp : l[i]? = some p) {x : Keyed} (hx : ρ x ≤ ρ p) : ∀ y ∈ l.drop i, ρ x ≤ ρ y := fun y hy => by
  obtain ⟨j, hj, e⟩ := mem_drop_get hy
  exact Nat.le_trans hx (first_le h hp e hj)
/-! ### what comparing tells -/
structure Rk (prog : Program) (w : World) (A : Around) (E : Value → Shared → Prop) (s : Shared) (κ : SortKind) (U : Keyed → Prop) (ρ : Keyed → Nat) : Prop where
  lt : ∀ p q, U p → U q → ∀ (st : SortSt) (Q : Option Bool → SortSt → Prop), kindOf st = κ → Q (some (decide (ρ p < ρ q))) st → wpS (model prog w) A E s (lt' p q) Q st
structure Keep (st st' : SortSt) : Prop where
  kind : kindOf st' = kindOf st
  arr : arrOf st' = arrOf st
  pend : pendingOf st' = pendingOf st
  fail : failedOf st' = failedOf st
theorem Keep.refl (st : SortSt) : Keep st st := ⟨rfl, rfl, rfl, rfl⟩
variable {prog : Program} {w : World} {A : Around} {E : Value → Shared → Prop} {s : Shared} {κ : SortKind} {U : Keyed → Prop}
theorem gallop_left (R : Rk prog w A E s κ U ρ) {key : Keyed} {arr : Array Keyed} {base n hint : Nat} {st : SortSt} {Q : Option Nat → SortSt → Prop} (hk : kindOf st = κ) (hU : ∀ p ∈ arr.toList, U p) (uk : U key) (hs : Ris ρ ((arr.toList.drop base).take n)) (hb : base + n ≤ arr.size) (hh : hint < n)
    (h : ∀ k, k ≤ n → (∀ x ∈ (arr.toList.drop base).take k, ρ x < ρ key) → (∀ i p, base + k ≤ i → i < base + n → arr[i]? = some p → ρ key ≤ ρ p) → Q (some k) st) : wpS (model prog w) A E s (gallop' true key arr base n hint) Q st := by
  have get : ∀ i, i < n → ∃ p, arr[base + i]? = some p ∧ ((arr.toList.drop base).take n)[i]? = some p ∧ U p := fun i hi => by
    have hl : base + i < arr.size := by omega
    refine ⟨arr[base + i], getElem?_pos arr (base + i) hl, ?_, hU _ (by simp)⟩
    rw [List.getElem?_take_of_lt hi, List.getElem?_drop, Array.getElem?_toList]
    exact getElem?_pos arr (base + i) hl
  let B : Nat → Bool := fun i => match arr[base + i]? with | some p => decide (ρ p < ρ key) | none => false
  have hB : ∀ i p, arr[base + i]? = some p → B i = decide (ρ p < ρ key) := fun i p e => by show (match arr[base + i]? with | some p => decide (ρ p < ρ key) | none => false) = _; rw [e]
  refine wpS_gallop B (fun i hi Rr q => ?_) (fun i j hij hj e => ?_) hh (fun k k1 k2 k3 => h k k1 (fun x hx => ?_) (fun i p h1 h2 e => ?_))
  · obtain ⟨p, e, _, up⟩ := get i hi
    refine wpS_bind (wpS_elem e ?_)
    rw [if_pos rfl]
    exact R.lt p key up uk st _ hk (by rw [← hB i p e]; exact q)
  · obtain ⟨p, e1, e2, _⟩ := get i (by omega)
    obtain ⟨q, e3, e4, _⟩ := get j hj
    rw [hB j q e3] at e
    rw [hB i p e1]
    have := first_le hs e2 e4 hij
    have := of_decide_eq_true e
    exact decide_eq_true (by omega)
  · obtain ⟨m, hm⟩ := List.getElem?_of_mem hx
    have hmk : m < k := by
      have := (List.getElem?_eq_some_iff.mp hm).1
      rw [List.length_take] at this
      omega
    rw [List.getElem?_take_of_lt hmk, List.getElem?_drop, Array.getElem?_toList] at hm
    have := k2 m hmk
    rw [hB m x hm] at this
    exact of_decide_eq_true this
  · have e' : arr[base + (i - base)]? = some p := by rw [show base + (i - base) = i by omega]; exact e
    have := k3 (i - base) (by omega) (by omega)
    rw [hB _ p e'] at this
    have := of_decide_eq_false this
    omega
theorem gallop_right (R : Rk prog w A E s κ U ρ) {key : Keyed} {arr : Array Keyed} {base n hint : Nat} {st : SortSt} {Q : Option Nat → SortSt → Prop} (hk : kindOf st = κ) (hU : ∀ p ∈ arr.toList, U p) (uk : U key) (hs : Ris ρ ((arr.toList.drop base).take n)) (hb : base + n ≤ arr.size) (hh : hint < n)
    (h : ∀ k, k ≤ n → (∀ x ∈ (arr.toList.drop base).take k, ρ x ≤ ρ key) → (∀ i p, base + k ≤ i → i < base + n → arr[i]? = some p → ρ key < ρ p) → Q (some k) st) : wpS (model prog w) A E s (gallop' false key arr base n hint) Q st := by
  have get : ∀ i, i < n → ∃ p, arr[base + i]? = some p ∧ ((arr.toList.drop base).take n)[i]? = some p ∧ U p := fun i hi => by
    have hl : base + i < arr.size := by omega
    refine ⟨arr[base + i], getElem?_pos arr (base + i) hl, ?_, hU _ (by simp)⟩
    rw [List.getElem?_take_of_lt hi, List.getElem?_drop, Array.getElem?_toList]
    exact getElem?_pos arr (base + i) hl
  let B : Nat → Bool := fun i => match arr[base + i]? with | some p => !decide (ρ key < ρ p) | none => false
  have hB : ∀ i p, arr[base + i]? = some p → B i = !decide (ρ key < ρ p) := fun i p e => by show (match arr[base + i]? with | some p => !decide (ρ key < ρ p) | none => false) = _; rw [e]
  refine wpS_gallop B (fun i hi Rr q => ?_) (fun i j hij hj e => ?_) hh (fun k k1 k2 k3 => h k k1 (fun x hx => ?_) (fun i p h1 h2 e => ?_))
  · obtain ⟨p, e, _, up⟩ := get i hi
    refine wpS_bind (wpS_elem e ?_)
    rw [if_neg Bool.false_ne_true]
    refine wpS_bind (R.lt key p uk up st _ hk ?_)
    exact wpS_pure (by rw [hB i p e] at q; exact q)
  · obtain ⟨p, e1, e2, _⟩ := get i (by omega)
    obtain ⟨q, e3, e4, _⟩ := get j hj
    rw [hB j q e3] at e
    rw [hB i p e1]
    have := first_le hs e2 e4 hij
    simp only [Bool.not_eq_true', decide_eq_false_iff_not] at e ⊢
    omega
  · obtain ⟨m, hm⟩ := List.getElem?_of_mem hx
    have hmk : m < k := by
      have := (List.getElem?_eq_some_iff.mp hm).1
      rw [List.length_take] at this
      omega
    rw [List.getElem?_take_of_lt hmk, List.getElem?_drop, Array.getElem?_toList] at hm
    have := k2 m hmk
    rw [hB m x hm] at this
    simp only [Bool.not_eq_true', decide_eq_false_iff_not] at this
    omega
  · have e' : arr[base + (i - base)]? = some p := by rw [show base + (i - base) = i by omega]; exact e
    have := k3 (i - base) (by omega) (by omega)
    rw [hB _ p e'] at this
    simp only [Bool.not_eq_false', decide_eq_true_eq] at this
    exact this
end Ti

set_option maxRecDepth 100000
set_option linter.all false
namespace Ti
open PySem PyProof.Rows
def mergeLo' : Array Keyed → Array Keyed → StateT SortSt Sem (Array Keyed) := sortPriv% PySem.Builtin.mergeLo
variable {prog : Program} {w : World} {A : Around} {E : Value → Shared → Prop} {s : Shared} {κ : SortKind} {U : Keyed → Prop} {ρ : Keyed → Nat}
def Stp {β : Type} (Q I : β → SortSt → Prop) (r : ForInStep β) (st : SortSt) : Prop := match r with
  | .done c => Q c st
  | .yield c => I c st
theorem for_n {β : Type} {n : Nat} {f : Nat → β → StateT SortSt Sem (ForInStep β)} (I : Nat → β → SortSt → Prop) (Q : β → SortSt → Prop)
    (hs : ∀ i c st, i < n → I i c st → wpS (model prog w) A E s (f i c) (Stp Q (I (i + 1))) st) (he : ∀ c st, I n c st → Q c st) {c : β} {st : SortSt} {R : β → SortSt → Prop} (h : I 0 c st) (hq : ∀ c st', Q c st' → R c st') : wpS (model prog w) A E s (forIn [:n] c f) R st :=
  wpS_mono (wpS_forRange (a := 0) (b := n) I (fun i c st _ hi h => hs i c st hi h) (fun c st h => he c st (by simpa using h)) h) hq
theorem toL {a : Array Keyed} {i : Nat} : (a.extract i).toList = a.toList.drop i := by
  simp only [Array.toList_extract, List.extract_eq_take_drop]
  exact List.take_of_length_le (by simp)
theorem toLk {a : Array Keyed} {i k : Nat} : (a.extract i (i + k)).toList = (a.toList.drop i).take k := by simp [List.take_drop]
theorem get_at {a : Array Keyed} (hU : ∀ p ∈ a.toList, U p) {i : Nat} (h : i < a.size) : ∃ p, a[i]? = some p ∧ a.toList[i]? = some p ∧ U p :=
  ⟨a[i], getElem?_pos a i h, by rw [Array.getElem?_toList]; exact getElem?_pos a i h, hU _ (by simp)⟩
theorem push_l {o : Array Keyed} {l : List Keyed} {i : Nat} {p : Keyed} (h : l[i]? = some p) : (o.push p).toList = o.toList ++ (l.drop i).take 1 := by rw [take_one h]; simp
theorem wpS_ite {α : Type} {c : Prop} [Decidable c] {x y : StateT SortSt Sem α} {Q : α → SortSt → Prop} {st : SortSt} (h1 : c → wpS (model prog w) A E s x Q st) (h2 : ¬ c → wpS (model prog w) A E s y Q st) : wpS (model prog w) A E s (if c then x else y) Q st := by
  by_cases h : c
  · rw [if_pos h]; exact h1 h
  · rw [if_neg h]; exact h2 h
/-- at work: something of both is left, and more than one of the first -/
structure Lo (ρ : Keyed → Nat) (a b o : Array Keyed) (ia ib : Nat) : Prop where
  j : J ρ a.toList b.toList o.toList ia ib
  ha : ia + 1 < a.size
  hb : ib < b.size
def Fine (ρ : Keyed → Nat) (a b : Array Keyed) (st : SortSt) (r : Array Keyed) (st' : SortSt) : Prop := Keep st st' ∧ r.toList.Perm (a.toList ++ b.toList) ∧ Ris ρ r.toList
theorem wpS_mergeLo (R : Rk prog w A E s κ U ρ) {a b : Array Keyed} {st : SortSt} {Q : Array Keyed → SortSt → Prop} (hk : kindOf st = κ) (Ua : ∀ p ∈ a.toList, U p) (Ub : ∀ p ∈ b.toList, U p) (sa : Ris ρ a.toList) (sb : Ris ρ b.toList) (a1 : 0 < a.size) (b1 : 0 < b.size)
    (h0 : ∀ p, b[0]? = some p → ∀ y ∈ a.toList, ρ p ≤ ρ y) (hl : Le ρ b.toList (a.toList.drop (a.size - 1))) (h : ∀ r st', Fine ρ a b st r st' → Q r st') : wpS (model prog w) A E s (mergeLo' a b) Q st := by
  have dn : ∀ (o : Array Keyed) (ia ib : Nat) (st' : SortSt), Keep st st' → J ρ a.toList b.toList o.toList ia ib → Le ρ (a.toList.drop ia) (b.toList.drop ib) → Fine ρ a b st (o ++ a.extract ia ++ b.extract ib) st' := fun o ia ib st' kp j le => by
    obtain ⟨x1, x2⟩ := j.doneA sa sb le
    refine ⟨kp, ?_, ?_⟩ <;> rw [Array.toList_append, Array.toList_append, toL, toL]
    · exact x1
    · exact x2
  have ls : ∀ (o : Array Keyed) (ia ib : Nat) (st' : SortSt), Keep st st' → J ρ a.toList b.toList o.toList ia ib → a.size ≤ ia + 1 → Fine ρ a b st (o ++ b.extract ib ++ a.extract ia) st' := fun o ia ib st' kp j hi => by
    have le : Le ρ (b.toList.drop ib) (a.toList.drop ia) := fun x hx y hy => by
      obtain ⟨m, hm, e⟩ := mem_drop_get hy
      exact hl x (List.mem_of_mem_drop hx) y (List.mem_of_getElem? (i := m - (a.size - 1)) (by rw [List.getElem?_drop, show a.size - 1 + (m - (a.size - 1)) = m by omega]; exact e))
    obtain ⟨x1, x2⟩ := j.doneB sa sb le
    refine ⟨kp, ?_, ?_⟩ <;> rw [Array.toList_append, Array.toList_append, toL, toL]
    · exact x1
    · exact x2
  have nob : ∀ ib, b.size ≤ ib → b.toList.drop ib = [] := fun ib hi => List.drop_of_length_le (by simpa using hi)
  have noa : ∀ ia, a.size ≤ ia → a.toList.drop ia = [] := fun ia hi => List.drop_of_length_le (by simpa using hi)
  have leN : ∀ l : List Keyed, Le ρ l [] := fun l x _ y hy => by simp at hy
  have leM : ∀ l : List Keyed, Le ρ [] l := fun l x hx => by simp at hx
  obtain ⟨p0, e0, e0', u0⟩ := get_at Ub b1
  refine wpS_bind (wpS_lift (wpAny_rule ⟨rfl, ?_⟩))
  refine wpS_bind (wpS_elem e0 ?_)
  have J0 : J ρ a.toList b.toList (#[p0] : Array Keyed).toList 0 1 := by
    have := (J.nil (ρ := ρ) (la := a.toList) (lb := b.toList)).blockB sb 1 (by rw [take_one e0']; exact fun x hx y hy => by rw [List.mem_singleton] at hx; subst hx; exact h0 _ e0 y (by simpa using hy))
    rw [take_one e0'] at this
    exact this
  dsimp only
  by_cases c1 : 1 = b.size
  · rw [if_pos (by simpa using c1)]
    exact wpS_pure (h _ _ (dn _ _ _ _ (Keep.refl _) J0 (by rw [nob 1 (by omega)]; exact leN _)))
  rw [if_neg (by simpa using c1)]
  by_cases c2 : 0 + 1 = a.size
  · rw [if_pos (by simpa using c2)]
    exact wpS_pure (h _ _ (ls _ _ _ _ (Keep.refl _) J0 (by omega)))
  rw [if_neg (by simpa using c2)]
  refine wpS_bind (wpS_get ?_)
  refine wpS_bind (for_n (I := fun x c st' => Keep st st' ∧ ∃ o ia ib mg, c = (none, o, ia, ib, mg) ∧ Lo ρ a b o ia ib ∧ x + 1 ≤ ia + ib) (Q := fun c st' => ∃ r c', c = (some r, c') ∧ Fine ρ a b st r st') ?_ ?_ ⟨Keep.refl _, _, _, _, _, rfl, ⟨J0, by omega, by omega⟩, by omega⟩ ?_)
  · rintro x c st1 hx ⟨kp1, o, ia, ib, mg, rfl, L, hc⟩
    dsimp only
    refine wpS_bind (for_n (I := fun _ c st' => st' = st1 ∧ ∃ o ia' ib' ac bc, c = (none, o, ia', ib', ac, bc) ∧ Lo ρ a b o ia' ib' ∧ ia + ib ≤ ia' + ib') (Q := fun c st' => st' = st1 ∧ ((∃ r c', c = (some r, c') ∧ Fine ρ a b st r st') ∨ ∃ o ia' ib' ac bc, c = (none, o, ia', ib', ac, bc) ∧ Lo ρ a b o ia' ib' ∧ ia + ib ≤ ia' + ib'))
      ?_ (fun c st' ⟨e, x⟩ => ⟨e, .inr x⟩) ⟨rfl, o, ia, ib, 0, 0, rfl, L, Nat.le_refl _⟩ ?_)
    · rintro y c st2 hy ⟨rfl, o, ia', ib', ac, bc, rfl, L', hc'⟩
      dsimp only
      obtain ⟨p, ep, ep', up⟩ := get_at Ub L'.hb
      obtain ⟨q, eq, eq', uq⟩ := get_at Ua (show ia' < a.size by have := L'.ha; omega)
      refine wpS_bind (wpS_elem ep (wpS_bind (wpS_elem eq (wpS_bind (R.lt p q up uq st2 _ (kp1.kind.trans hk) ?_)))))
      dsimp only
      by_cases hlt : ρ p < ρ q
      · rw [if_pos (decide_eq_true hlt)]
        refine wpS_bind (wpS_elem ep ?_)
        have J1 : J ρ a.toList b.toList (o.push p).toList ia' (ib' + 1) := by
          rw [push_l ep']
          exact L'.j.blockB sb 1 (by rw [take_one ep']; exact fun x hx => by rw [List.mem_singleton] at hx; subst hx; exact le_drop sa eq' (by omega))
        by_cases c3 : ib' + 1 = b.size
        · rw [if_pos (by simpa using c3)]
          exact wpS_pure ⟨rfl, .inl ⟨_, _, rfl, dn _ _ _ _ kp1 J1 (by rw [nob _ (by omega)]; exact leN _)⟩⟩
        · rw [if_neg (by simpa using c3)]
          have L1 : Lo ρ a b (o.push p) ia' (ib' + 1) := ⟨J1, L'.ha, by have := L'.hb; omega⟩
          split
          · exact wpS_pure ⟨rfl, .inr ⟨_, _, _, _, _, rfl, L1, by omega⟩⟩
          · exact wpS_pure ⟨rfl, _, _, _, _, _, rfl, L1, by omega⟩
      · rw [if_neg (by simpa using hlt)]
        refine wpS_bind (wpS_elem eq ?_)
        have J1 : J ρ a.toList b.toList (o.push q).toList (ia' + 1) ib' := by
          rw [push_l eq']
          exact L'.j.blockA sa 1 (by rw [take_one eq']; exact fun x hx => by rw [List.mem_singleton] at hx; subst hx; exact le_drop sb ep' (by omega))
        by_cases c3 : ia' + 1 + 1 = a.size
        · rw [if_pos (by simpa using c3)]
          exact wpS_pure ⟨rfl, .inl ⟨_, _, rfl, ls _ _ _ _ kp1 J1 (by omega)⟩⟩
        · rw [if_neg (by simpa using c3)]
          have L1 : Lo ρ a b (o.push q) (ia' + 1) ib' := ⟨J1, by have := L'.ha; omega, L'.hb⟩
          split
          · exact wpS_pure ⟨rfl, .inr ⟨_, _, _, _, _, rfl, L1, by omega⟩⟩
          · exact wpS_pure ⟨rfl, _, _, _, _, _, rfl, L1, by omega⟩
    · rintro c st2 ⟨rfl, ⟨r, c', rfl, fr⟩ | ⟨o, ia', ib', ac, bc, rfl, L', hc'⟩⟩
      · exact wpS_pure ⟨_, _, rfl, fr⟩
      dsimp only
      refine wpS_bind (wpS_lift (wpAny_rule ⟨rfl, ?_⟩))
      refine wpS_bind (for_n (I := fun x c st' => Keep st st' ∧ ∃ o ia ib mg ac bc, c = (none, o, ia, ib, mg, ac, bc) ∧ Lo ρ a b o ia ib ∧ ia' + ib' + x ≤ ia + ib)
        (Q := fun c st' => (∃ r c', c = (some r, c') ∧ Fine ρ a b st r st') ∨ (Keep st st' ∧ ∃ o ia ib mg ac bc, c = (none, o, ia, ib, mg, ac, bc) ∧ Lo ρ a b o ia ib ∧ ia' + ib' + 1 ≤ ia + ib)) ?_ ?_ ⟨kp1, _, _, _, _, _, _, rfl, L', by omega⟩ ?_)
      · rintro y c st3 hy ⟨kp3, o3, ia3, ib3, mg3, ac3, bc3, rfl, L3, hc3⟩
        refine wpS_ite (fun _ => ?_) (fun _ => ?_)
        all_goals
          refine wpS_bind (wpS_modify ?_)
          obtain ⟨p, ep, ep', up⟩ := get_at Ub L3.hb
          have ha3 := L3.ha
          refine wpS_bind (wpS_elem ep (wpS_bind (gallop_right R (base := ia3) (n := a.size - ia3) (kp3.kind.trans hk) Ua up (ris_take (ris_drop sa _) _) (by omega) (by omega) (fun k k1 k2 k3 => ?_))))
          dsimp only
          rcases Nat.eq_zero_or_pos k with hk0 | hk0
          · subst hk0
            rw [if_neg (Nat.lt_irrefl 0)]
            have JA := L3.j
            have ha4 : ia3 + 1 < a.size := by omega
            have hle4 : ∀ q, a[ia3]? = some q → ρ p < ρ q := fun q e => k3 ia3 q (by omega) (by omega) e
            have hc4 := hc3
            generalize o3 = o4 at JA ⊢
            generalize ia3 = ia4 at JA ha4 hle4 hc4 ⊢
            refine wpS_bind (wpS_elem ep ?_)
            obtain ⟨q, eq, eq', uq⟩ := get_at Ua (Nat.lt_of_succ_lt ha4)
            have hpq := hle4 q eq
            have JB : J ρ a.toList b.toList (o4.push p).toList ia4 (ib3 + 1) := by
              rw [push_l ep']
              exact JA.blockB sb 1 (by rw [take_one ep']; exact fun x hx => by rw [List.mem_singleton] at hx; subst hx; exact le_drop sa eq' (by omega))
            by_cases c5 : ib3 + 1 = b.size
            · rw [if_pos (by simpa using c5)]
              exact wpS_pure (.inl ⟨_, _, rfl, dn _ _ _ _ ⟨kp3.kind, kp3.arr, kp3.pend, kp3.fail⟩ JB (by rw [nob _ (by omega)]; exact leN _)⟩)
            rw [if_neg (by simpa using c5)]
            have hb5 := L3.hb
            refine wpS_bind (wpS_elem eq (wpS_bind (gallop_left R (base := ib3 + 1) (n := b.size - (ib3 + 1)) (kp3.kind.trans hk) Ub uq (ris_take (ris_drop sb _) _) (by omega) (by omega) (fun m m1 m2 m3 => ?_))))
            dsimp only
            rcases Nat.eq_zero_or_pos m with hm0 | hm0
            · subst hm0
              rw [if_neg (Nat.lt_irrefl 0)]
              have hb6 : ib3 + 1 < b.size := by omega
              have hle6 : ∀ y ∈ b.toList.drop (ib3 + 1), ρ q ≤ ρ y := fun y hy => by
                obtain ⟨n, hn, e⟩ := mem_drop_get hy
                rw [Array.getElem?_toList] at e
                have hn2 := (Array.getElem?_eq_some_iff.mp e).1
                exact m3 n y (by omega) (by omega) e
              have hc6 : ia' + ib' + y < ia4 + (ib3 + 1) := by omega
              generalize o4.push p = o6 at JB ⊢
              generalize ib3 + 1 = ib6 at JB hb6 hle6 hc6 ⊢
              refine wpS_bind (wpS_elem eq ?_)
              have JC : J ρ a.toList b.toList (o6.push q).toList (ia4 + 1) ib6 := by
                rw [push_l eq']
                exact JB.blockA sa 1 (by rw [take_one eq']; exact fun x hx => by rw [List.mem_singleton] at hx; subst hx; exact hle6)
              by_cases c6 : ia4 + 1 + 1 = a.size
              · rw [if_pos (by simpa using c6)]
                exact wpS_pure (.inl ⟨_, _, rfl, ls _ _ _ _ ⟨kp3.kind, kp3.arr, kp3.pend, kp3.fail⟩ JC (by omega)⟩)
              rw [if_neg (by simpa using c6)]
              have L4 : Lo ρ a b (o6.push q) (ia4 + 1) ib6 := ⟨JC, by omega, hb6⟩
              split
              · exact wpS_pure (.inr ⟨⟨kp3.kind, kp3.arr, kp3.pend, kp3.fail⟩, _, _, _, _, _, _, rfl, L4, by omega⟩)
              · exact wpS_pure ⟨⟨kp3.kind, kp3.arr, kp3.pend, kp3.fail⟩, _, _, _, _, _, _, rfl, L4, by omega⟩
            · rw [if_pos hm0]
              have JB2 : J ρ a.toList b.toList (o4.push p ++ b.extract (ib3 + 1) (ib3 + 1 + m)).toList ia4 (ib3 + 1 + m) := by
                rw [Array.toList_append, toLk]
                exact JB.blockB sb m (fun x hx => le_drop sa eq' (Nat.le_of_lt (m2 x hx)))
              by_cases c6 : ib3 + 1 + m = b.size
              · rw [if_pos (by simpa using c6)]
                exact wpS_pure (.inl ⟨_, _, rfl, dn _ _ _ _ ⟨kp3.kind, kp3.arr, kp3.pend, kp3.fail⟩ JB2 (by rw [nob _ (by omega)]; exact leN _)⟩)
              rw [if_neg (by simpa using c6)]
              clear JB
              have JB := JB2
              have hb6 : ib3 + 1 + m < b.size := by omega
              have hle6 : ∀ y ∈ b.toList.drop (ib3 + 1 + m), ρ q ≤ ρ y := fun y hy => by
                obtain ⟨n, hn, e⟩ := mem_drop_get hy
                rw [Array.getElem?_toList] at e
                have hn2 := (Array.getElem?_eq_some_iff.mp e).1
                exact m3 n y (by omega) (by omega) e
              have hc6 : ia' + ib' + y < ia4 + (ib3 + 1 + m) := by omega
              generalize o4.push p ++ b.extract (ib3 + 1) (ib3 + 1 + m) = o6 at JB ⊢
              generalize ib3 + 1 + m = ib6 at JB hb6 hle6 hc6 ⊢
              refine wpS_bind (wpS_elem eq ?_)
              have JC : J ρ a.toList b.toList (o6.push q).toList (ia4 + 1) ib6 := by
                rw [push_l eq']
                exact JB.blockA sa 1 (by rw [take_one eq']; exact fun x hx => by rw [List.mem_singleton] at hx; subst hx; exact hle6)
              by_cases c6 : ia4 + 1 + 1 = a.size
              · rw [if_pos (by simpa using c6)]
                exact wpS_pure (.inl ⟨_, _, rfl, ls _ _ _ _ ⟨kp3.kind, kp3.arr, kp3.pend, kp3.fail⟩ JC (by omega)⟩)
              rw [if_neg (by simpa using c6)]
              have L4 : Lo ρ a b (o6.push q) (ia4 + 1) ib6 := ⟨JC, by omega, hb6⟩
              split
              · exact wpS_pure (.inr ⟨⟨kp3.kind, kp3.arr, kp3.pend, kp3.fail⟩, _, _, _, _, _, _, rfl, L4, by omega⟩)
              · exact wpS_pure ⟨⟨kp3.kind, kp3.arr, kp3.pend, kp3.fail⟩, _, _, _, _, _, _, rfl, L4, by omega⟩
          · rw [if_pos hk0]
            have JA : J ρ a.toList b.toList (o3 ++ a.extract ia3 (ia3 + k)).toList (ia3 + k) ib3 := by
              rw [Array.toList_append, toLk]
              exact L3.j.blockA sa k (fun x hx => le_drop sb ep' (k2 x hx))
            by_cases c3 : ia3 + k + 1 = a.size
            · rw [if_pos (by simpa using c3)]
              exact wpS_pure (.inl ⟨_, _, rfl, ls _ _ _ _ ⟨kp3.kind, kp3.arr, kp3.pend, kp3.fail⟩ JA (by omega)⟩)
            rw [if_neg (by simpa using c3)]
            by_cases c4 : ia3 + k = a.size
            · rw [if_pos (by simpa using c4)]
              exact wpS_pure (.inl ⟨_, _, rfl, dn _ _ _ _ ⟨kp3.kind, kp3.arr, kp3.pend, kp3.fail⟩ JA (by rw [noa _ (by omega)]; exact leM _)⟩)
            rw [if_neg (by simpa using c4)]
            have ha4 : ia3 + k + 1 < a.size := by omega
            have hle4 : ∀ q, a[ia3 + k]? = some q → ρ p < ρ q := fun q e => k3 (ia3 + k) q (by omega) (by omega) e
            have hc4 : ia' + ib' + y ≤ ia3 + k + ib3 := by omega
            generalize o3 ++ a.extract ia3 (ia3 + k) = o4 at JA ⊢
            generalize ia3 + k = ia4 at JA ha4 hle4 hc4 ⊢
            refine wpS_bind (wpS_elem ep ?_)
            obtain ⟨q, eq, eq', uq⟩ := get_at Ua (Nat.lt_of_succ_lt ha4)
            have hpq := hle4 q eq
            have JB : J ρ a.toList b.toList (o4.push p).toList ia4 (ib3 + 1) := by
              rw [push_l ep']
              exact JA.blockB sb 1 (by rw [take_one ep']; exact fun x hx => by rw [List.mem_singleton] at hx; subst hx; exact le_drop sa eq' (by omega))
            by_cases c5 : ib3 + 1 = b.size
            · rw [if_pos (by simpa using c5)]
              exact wpS_pure (.inl ⟨_, _, rfl, dn _ _ _ _ ⟨kp3.kind, kp3.arr, kp3.pend, kp3.fail⟩ JB (by rw [nob _ (by omega)]; exact leN _)⟩)
            rw [if_neg (by simpa using c5)]
            have hb5 := L3.hb
            refine wpS_bind (wpS_elem eq (wpS_bind (gallop_left R (base := ib3 + 1) (n := b.size - (ib3 + 1)) (kp3.kind.trans hk) Ub uq (ris_take (ris_drop sb _) _) (by omega) (by omega) (fun m m1 m2 m3 => ?_))))
            dsimp only
            rcases Nat.eq_zero_or_pos m with hm0 | hm0
            · subst hm0
              rw [if_neg (Nat.lt_irrefl 0)]
              have hb6 : ib3 + 1 < b.size := by omega
              have hle6 : ∀ y ∈ b.toList.drop (ib3 + 1), ρ q ≤ ρ y := fun y hy => by
                obtain ⟨n, hn, e⟩ := mem_drop_get hy
                rw [Array.getElem?_toList] at e
                have hn2 := (Array.getElem?_eq_some_iff.mp e).1
                exact m3 n y (by omega) (by omega) e
              have hc6 : ia' + ib' + y < ia4 + (ib3 + 1) := by omega
              generalize o4.push p = o6 at JB ⊢
              generalize ib3 + 1 = ib6 at JB hb6 hle6 hc6 ⊢
              refine wpS_bind (wpS_elem eq ?_)
              have JC : J ρ a.toList b.toList (o6.push q).toList (ia4 + 1) ib6 := by
                rw [push_l eq']
                exact JB.blockA sa 1 (by rw [take_one eq']; exact fun x hx => by rw [List.mem_singleton] at hx; subst hx; exact hle6)
              by_cases c6 : ia4 + 1 + 1 = a.size
              · rw [if_pos (by simpa using c6)]
                exact wpS_pure (.inl ⟨_, _, rfl, ls _ _ _ _ ⟨kp3.kind, kp3.arr, kp3.pend, kp3.fail⟩ JC (by omega)⟩)
              rw [if_neg (by simpa using c6)]
              have L4 : Lo ρ a b (o6.push q) (ia4 + 1) ib6 := ⟨JC, by omega, hb6⟩
              split
              · exact wpS_pure (.inr ⟨⟨kp3.kind, kp3.arr, kp3.pend, kp3.fail⟩, _, _, _, _, _, _, rfl, L4, by omega⟩)
              · exact wpS_pure ⟨⟨kp3.kind, kp3.arr, kp3.pend, kp3.fail⟩, _, _, _, _, _, _, rfl, L4, by omega⟩
            · rw [if_pos hm0]
              have JB2 : J ρ a.toList b.toList (o4.push p ++ b.extract (ib3 + 1) (ib3 + 1 + m)).toList ia4 (ib3 + 1 + m) := by
                rw [Array.toList_append, toLk]
                exact JB.blockB sb m (fun x hx => le_drop sa eq' (Nat.le_of_lt (m2 x hx)))
              by_cases c6 : ib3 + 1 + m = b.size
              · rw [if_pos (by simpa using c6)]
                exact wpS_pure (.inl ⟨_, _, rfl, dn _ _ _ _ ⟨kp3.kind, kp3.arr, kp3.pend, kp3.fail⟩ JB2 (by rw [nob _ (by omega)]; exact leN _)⟩)
              rw [if_neg (by simpa using c6)]
              clear JB
              have JB := JB2
              have hb6 : ib3 + 1 + m < b.size := by omega
              have hle6 : ∀ y ∈ b.toList.drop (ib3 + 1 + m), ρ q ≤ ρ y := fun y hy => by
                obtain ⟨n, hn, e⟩ := mem_drop_get hy
                rw [Array.getElem?_toList] at e
                have hn2 := (Array.getElem?_eq_some_iff.mp e).1
                exact m3 n y (by omega) (by omega) e
              have hc6 : ia' + ib' + y < ia4 + (ib3 + 1 + m) := by omega
              generalize o4.push p ++ b.extract (ib3 + 1) (ib3 + 1 + m) = o6 at JB ⊢
              generalize ib3 + 1 + m = ib6 at JB hb6 hle6 hc6 ⊢
              refine wpS_bind (wpS_elem eq ?_)
              have JC : J ρ a.toList b.toList (o6.push q).toList (ia4 + 1) ib6 := by
                rw [push_l eq']
                exact JB.blockA sa 1 (by rw [take_one eq']; exact fun x hx => by rw [List.mem_singleton] at hx; subst hx; exact hle6)
              by_cases c6 : ia4 + 1 + 1 = a.size
              · rw [if_pos (by simpa using c6)]
                exact wpS_pure (.inl ⟨_, _, rfl, ls _ _ _ _ ⟨kp3.kind, kp3.arr, kp3.pend, kp3.fail⟩ JC (by omega)⟩)
              rw [if_neg (by simpa using c6)]
              have L4 : Lo ρ a b (o6.push q) (ia4 + 1) ib6 := ⟨JC, by omega, hb6⟩
              split
              · exact wpS_pure (.inr ⟨⟨kp3.kind, kp3.arr, kp3.pend, kp3.fail⟩, _, _, _, _, _, _, rfl, L4, by omega⟩)
              · exact wpS_pure ⟨⟨kp3.kind, kp3.arr, kp3.pend, kp3.fail⟩, _, _, _, _, _, _, rfl, L4, by omega⟩
      · rintro c st3 ⟨kp, o, ia, ib, mg, ac, bc, rfl, L, hc⟩
        exact .inr ⟨kp, _, _, _, _, _, _, rfl, L, by omega⟩
      · rintro c st3 (⟨r, c', rfl, fr⟩ | ⟨kp, o, ia2, ib2, mg, ac, bc, rfl, L2, hc2⟩)
        · exact wpS_pure ⟨_, _, rfl, fr⟩
        · dsimp only
          exact wpS_bind (wpS_modify (wpS_pure ⟨⟨kp.kind, kp.arr, kp.pend, kp.fail⟩, _, _, _, _, rfl, L2, by omega⟩))
  · rintro c st1 ⟨kp, o, ia, ib, mg, rfl, L, hc⟩
    have := L.ha
    have := L.hb
    omega
  · rintro c st1 ⟨r, c', rfl, fr⟩
    exact wpS_pure (h _ _ fr)
end Ti

set_option maxRecDepth 100000
set_option linter.all false
namespace Ti
open PySem PyProof.Rows
/-! ### two rising rows, put together from their ends -/
structure H (ρ : Keyed → Nat) (la lb o : List Keyed) (ia ib : Nat) : Prop where
  pm : o.Perm (la.drop ia ++ lb.drop ib)
  so : Ris ρ o
  ra : Le ρ (la.take ia) o
  rb : Le ρ (lb.take ib) o
section
variable {ρ : Keyed → Nat} {la lb o : List Keyed} {ia ib : Nat}
theorem H.swap (h : H ρ la lb o ia ib) : H ρ lb la o ib ia := ⟨h.pm.trans List.perm_append_comm, h.so, h.rb, h.ra⟩
theorem H.nil : H ρ la lb [] la.length lb.length := ⟨by simp, .nil, fun _ _ _ h => by simp at h, fun _ _ _ h => by simp at h⟩
theorem H.blockA (h : H ρ la lb o ia ib) (sa : Ris ρ la) (k : Nat) (hki : k ≤ ia) (hk : Le ρ (lb.take ib) ((la.take ia).drop k)) : H ρ la lb ((la.take ia).drop k ++ o) k ib := by
  have et : la.take k = (la.take ia).take k := by rw [List.take_take, Nat.min_eq_left hki]
  have ed : la.drop k = (la.take ia).drop k ++ la.drop ia := by
    conv => lhs; rw [← List.take_append_drop ia la]
    rcases Nat.lt_or_ge la.length ia with hl | hl
    · rw [List.take_of_length_le (by omega), List.drop_of_length_le (Nat.le_of_lt hl), List.append_nil, List.append_nil]
    · rw [List.drop_append_of_le_length (by rw [List.length_take]; omega)]
  refine ⟨?_, ?_, fun x hx y hy => ?_, fun x hx y hy => ?_⟩
  · rw [ed, List.append_assoc]
    exact h.pm.append_left _
  · exact List.pairwise_append.mpr ⟨ris_drop (ris_take sa _) _, h.so, fun x hx y hy => h.ra x (List.mem_of_mem_drop hx) y hy⟩
  · rw [et] at hx
    rcases List.mem_append.mp hy with hy | hy
    · exact ris_cut (ris_take sa ia) k x hx y hy
    · exact h.ra x (List.mem_of_mem_take hx) y hy
  · rcases List.mem_append.mp hy with hy | hy
    · exact hk x hx y hy
    · exact h.rb x hx y hy
theorem H.blockB (h : H ρ la lb o ia ib) (sb : Ris ρ lb) (k : Nat) (hki : k ≤ ib) (hk : Le ρ (la.take ia) ((lb.take ib).drop k)) : H ρ la lb ((lb.take ib).drop k ++ o) ia k := (h.swap.blockA sb k hki hk).swap
/-- the rest of the first, that of the second, then what there is -/
theorem H.doneA (h : H ρ la lb o ia ib) (sa : Ris ρ la) (sb : Ris ρ lb) (hk : Le ρ (la.take ia) (lb.take ib)) : (la.take ia ++ lb.take ib ++ o).Perm (la ++ lb) ∧ Ris ρ (la.take ia ++ lb.take ib ++ o) := by
  have h1 := h.blockB sb 0 (Nat.zero_le _) (by rw [List.drop_zero]; exact hk)
  rw [List.drop_zero] at h1
  have h2 := h1.blockA sa 0 (Nat.zero_le _) (by rw [List.take_zero]; exact fun x hx => by simp at hx)
  rw [List.drop_zero, ← List.append_assoc] at h2
  refine ⟨?_, h2.so⟩
  have h3 := h2.pm
  rw [List.drop_zero, List.drop_zero] at h3
  exact h3
theorem H.doneB (h : H ρ la lb o ia ib) (sa : Ris ρ la) (sb : Ris ρ lb) (hk : Le ρ (lb.take ib) (la.take ia)) : (lb.take ib ++ la.take ia ++ o).Perm (la ++ lb) ∧ Ris ρ (lb.take ib ++ la.take ia ++ o) := by
  obtain ⟨h1, h2⟩ := h.swap.doneA sb sa hk
  exact ⟨h1.trans List.perm_append_comm, h2⟩
theorem drop_one {l : List Keyed} {i : Nat} {p : Keyed} (h : l[i]? = some p) : (l.take (i + 1)).drop i = [p] := by
  obtain ⟨hi, e⟩ := List.getElem?_eq_some_iff.mp h
  rw [List.drop_take, List.drop_eq_getElem_cons hi, e, show i + 1 - i = 1 by omega]
  rfl
theorem mem_take_get {l : List Keyed} {i : Nat} {y : Keyed} (h : y ∈ l.take i) : ∃ j, j < i ∧ l[j]? = some y := by
  obtain ⟨n, hn⟩ := List.getElem?_of_mem h
  have hl := (List.getElem?_eq_some_iff.mp hn).1
  rw [List.length_take] at hl
  rw [List.getElem?_take_of_lt (by omega)] at hn
  exact ⟨n, by omega, hn⟩
theorem mem_mid_get {l : List Keyed} {i k : Nat} {y : Keyed} (h : y ∈ (l.take i).drop k) : ∃ j, k ≤ j ∧ j < i ∧ l[j]? = some y := by
  obtain ⟨n, hn, e⟩ := mem_drop_get h
  have hl := (List.getElem?_eq_some_iff.mp e).1
  rw [List.length_take] at hl
  rw [List.getElem?_take_of_lt (by omega)] at e
  exact ⟨n, hn, by omega, e⟩
/-- the last that is left is the greatest -/
theorem take_le {l : List Keyed} (h : Ris ρ l) {i : Nat} {p : Keyed} (hp : l[i]? = some p) {x : Keyed} (hx : ρ p ≤ ρ x) : ∀ y ∈ l.take (i + 1), ρ y ≤ ρ x := fun y hy => by
  obtain ⟨j, hj, e⟩ := mem_take_get hy
  exact Nat.le_trans (first_le h e hp (by omega)) hx
theorem toT {a : Array Keyed} {i : Nat} : (a.extract 0 i).toList = a.toList.take i := by simp
theorem toM {a : Array Keyed} {k i : Nat} : (a.extract k i).toList = (a.toList.take i).drop k := by
  simp only [Array.toList_extract, List.extract_eq_take_drop, List.drop_take]
theorem push_r {o : Array Keyed} {l : List Keyed} {i : Nat} {p : Keyed} (h : l[i]? = some p) : (o.push p).toList.reverse = (l.take (i + 1)).drop i ++ o.toList.reverse := by rw [drop_one h]; simp
theorem app_r {o a : Array Keyed} {k i : Nat} : (o ++ (a.extract k i).reverse).toList.reverse = (a.toList.take i).drop k ++ o.toList.reverse := by
  rw [← toM]
  simp
end
/-- at work -/
structure Hi (ρ : Keyed → Nat) (a b o : Array Keyed) (ia ib : Nat) : Prop where
  j : H ρ a.toList b.toList o.toList.reverse ia ib
  ha : 0 < ia
  hb : 1 < ib
  la : ia < a.size
  lb : ib ≤ b.size
def mergeHi' : Array Keyed → Array Keyed → StateT SortSt Sem (Array Keyed) := sortPriv% PySem.Builtin.mergeHi
variable {prog : Program} {w : World} {A : Around} {E : Value → Shared → Prop} {s : Shared} {κ : SortKind} {U : Keyed → Prop} {ρ : Keyed → Nat}
theorem wpS_mergeHi (R : Rk prog w A E s κ U ρ) {a b : Array Keyed} {st : SortSt} {Q : Array Keyed → SortSt → Prop} (hk : kindOf st = κ) (Ua : ∀ p ∈ a.toList, U p) (Ub : ∀ p ∈ b.toList, U p) (sa : Ris ρ a.toList) (sb : Ris ρ b.toList) (a1 : 0 < a.size) (b1 : 0 < b.size)
    (h0 : ∀ p, b[0]? = some p → ∀ y ∈ a.toList, ρ p ≤ ρ y) (hl : Le ρ b.toList (a.toList.drop (a.size - 1))) (h : ∀ r st', Fine ρ a b st r st' → Q r st') : wpS (model prog w) A E s (mergeHi' a b) Q st := by
  have dn : ∀ (o : Array Keyed) (ia ib : Nat) (st' : SortSt), Keep st st' → H ρ a.toList b.toList o.toList.reverse ia ib → Le ρ (a.toList.take ia) (b.toList.take ib) → Fine ρ a b st (a.extract 0 ia ++ b.extract 0 ib ++ o.reverse) st' := fun o ia ib st' kp j le => by
    obtain ⟨x1, x2⟩ := j.doneA sa sb le
    refine ⟨kp, ?_, ?_⟩ <;> rw [Array.toList_append, Array.toList_append, toT, toT, Array.toList_reverse]
    · exact x1
    · exact x2
  have fs : ∀ (o : Array Keyed) (ia ib : Nat) (st' : SortSt), Keep st st' → H ρ a.toList b.toList o.toList.reverse ia ib → ib ≤ 1 → Fine ρ a b st (b.extract 0 ib ++ a.extract 0 ia ++ o.reverse) st' := fun o ia ib st' kp j hi => by
    have le : Le ρ (b.toList.take ib) (a.toList.take ia) := fun x hx y hy => by
      obtain ⟨m, hm, e⟩ := mem_take_get hx
      have hm0 : m = 0 := by omega
      subst hm0
      rw [Array.getElem?_toList] at e
      exact h0 x e y (List.mem_of_mem_take hy)
    obtain ⟨x1, x2⟩ := j.doneB sa sb le
    refine ⟨kp, ?_, ?_⟩ <;> rw [Array.toList_append, Array.toList_append, toT, toT, Array.toList_reverse]
    · exact x1
    · exact x2
  have leN : ∀ l : List Keyed, Le ρ l [] := fun l x _ y hy => by simp at hy
  have leM : ∀ l : List Keyed, Le ρ [] l := fun l x hx => by simp at hx
  obtain ⟨p0, e0, e0', u0⟩ := get_at Ua (show a.size - 1 < a.size by omega)
  refine wpS_bind (wpS_lift (wpAny_rule ⟨rfl, ?_⟩))
  refine wpS_bind (wpS_elem e0 ?_)
  have J0 : H ρ a.toList b.toList (#[p0] : Array Keyed).toList.reverse (a.size - 1) b.size := by
    have h1 : H ρ a.toList b.toList [] (a.size - 1 + 1) b.size := by
      have := H.nil (ρ := ρ) (la := a.toList) (lb := b.toList)
      rw [Array.length_toList, Array.length_toList] at this
      rw [show a.size - 1 + 1 = a.size by omega]
      exact this
    have := h1.blockA sa (a.size - 1) (by omega) (by
      rw [drop_one e0']
      intro x hx y hy
      rw [List.mem_singleton] at hy
      subst hy
      exact hl x (List.mem_of_mem_take hx) y (List.mem_of_getElem? (i := 0) (by rw [List.getElem?_drop]; exact e0')))
    rw [drop_one e0'] at this
    exact this
  dsimp only
  by_cases c1 : a.size - 1 = 0
  · rw [if_pos (by simpa using c1)]
    exact wpS_pure (h _ _ (dn _ _ _ _ (Keep.refl _) J0 (by rw [c1, List.take_zero]; exact leM _)))
  rw [if_neg (by simpa using c1)]
  by_cases c2 : b.size = 1
  · rw [if_pos (by simpa using c2)]
    exact wpS_pure (h _ _ (fs _ _ _ _ (Keep.refl _) J0 (by omega)))
  rw [if_neg (by simpa using c2)]
  refine wpS_bind (wpS_get ?_)
  refine wpS_bind (for_n (I := fun x c st' => Keep st st' ∧ ∃ o ia ib mg, c = (none, ia, ib, o, mg) ∧ Hi ρ a b o ia ib ∧ ia + ib + x + 1 ≤ a.size + b.size) (Q := fun c st' => ∃ r c', c = (some r, c') ∧ Fine ρ a b st r st') ?_ ?_ ⟨Keep.refl _, _, _, _, _, rfl, ⟨J0, by omega, by omega, by omega, by omega⟩, by omega⟩ ?_)
  · rintro x c st1 hx ⟨kp1, o, ia, ib, mg, rfl, L, hc⟩
    dsimp only
    refine wpS_bind (for_n (I := fun _ c st' => st' = st1 ∧ ∃ o ia' ib' ac bc, c = (none, ia', ib', o, ac, bc) ∧ Hi ρ a b o ia' ib' ∧ ia' + ib' ≤ ia + ib) (Q := fun c st' => st' = st1 ∧ ((∃ r c', c = (some r, c') ∧ Fine ρ a b st r st') ∨ ∃ o ia' ib' ac bc, c = (none, ia', ib', o, ac, bc) ∧ Hi ρ a b o ia' ib' ∧ ia' + ib' ≤ ia + ib))
      ?_ (fun c st' ⟨e, x⟩ => ⟨e, .inr x⟩) ⟨rfl, o, ia, ib, 0, 0, rfl, L, Nat.le_refl _⟩ ?_)
    · rintro y c st2 hy ⟨rfl, o, ia'', ib'', ac, bc, rfl, L', hc'⟩
      dsimp only
      have xa := L'.ha
      have xb := L'.hb
      have ya := L'.la
      have yb := L'.lb
      obtain ⟨ia', rfl⟩ : ∃ i, ia'' = i + 1 := ⟨ia'' - 1, by omega⟩
      obtain ⟨ib', rfl⟩ : ∃ i, ib'' = i + 1 := ⟨ib'' - 1, by omega⟩
      obtain ⟨p, ep, ep', up⟩ := get_at Ub (show ib' < b.size by omega)
      obtain ⟨q, eq, eq', uq⟩ := get_at Ua (show ia' < a.size by omega)
      refine wpS_bind (wpS_elem ep (wpS_bind (wpS_elem eq (wpS_bind (R.lt p q up uq st2 _ (kp1.kind.trans hk) ?_)))))
      dsimp only
      by_cases hlt : ρ p < ρ q
      · rw [if_pos (decide_eq_true hlt)]
        refine wpS_bind (wpS_elem eq ?_)
        have J1 : H ρ a.toList b.toList (o.push q).toList.reverse ia' (ib' + 1) := by
          rw [push_r eq']
          exact L'.j.blockA sa ia' (by omega) (by rw [drop_one eq']; exact fun x hx y hy => by rw [List.mem_singleton] at hy; subst hy; exact take_le sb ep' (by omega) x hx)
        by_cases c3 : ia' = 0
        · rw [if_pos (by simpa using c3)]
          exact wpS_pure ⟨rfl, .inl ⟨_, _, rfl, dn _ _ _ _ kp1 J1 (by rw [c3, List.take_zero]; exact leM _)⟩⟩
        · rw [if_neg (by simpa using c3)]
          have L1 : Hi ρ a b (o.push q) ia' (ib' + 1) := ⟨J1, by omega, by omega, by omega, by omega⟩
          split
          · exact wpS_pure ⟨rfl, .inr ⟨_, _, _, _, _, rfl, L1, by omega⟩⟩
          · exact wpS_pure ⟨rfl, _, _, _, _, _, rfl, L1, by omega⟩
      · rw [if_neg (by simpa using hlt)]
        refine wpS_bind (wpS_elem ep ?_)
        have J1 : H ρ a.toList b.toList (o.push p).toList.reverse (ia' + 1) ib' := by
          rw [push_r ep']
          exact L'.j.blockB sb ib' (by omega) (by rw [drop_one ep']; exact fun x hx y hy => by rw [List.mem_singleton] at hy; subst hy; exact take_le sa eq' (by omega) x hx)
        by_cases c3 : ib' = 1
        · rw [if_pos (by simpa using c3)]
          exact wpS_pure ⟨rfl, .inl ⟨_, _, rfl, fs _ _ _ _ kp1 J1 (by omega)⟩⟩
        · rw [if_neg (by simpa using c3)]
          have L1 : Hi ρ a b (o.push p) (ia' + 1) ib' := ⟨J1, by omega, by omega, by omega, by omega⟩
          split
          · exact wpS_pure ⟨rfl, .inr ⟨_, _, _, _, _, rfl, L1, by omega⟩⟩
          · exact wpS_pure ⟨rfl, _, _, _, _, _, rfl, L1, by omega⟩
    · rintro c st2 ⟨rfl, ⟨r, c', rfl, fr⟩ | ⟨o, ia', ib', ac, bc, rfl, L', hc'⟩⟩
      · exact wpS_pure ⟨_, _, rfl, fr⟩
      dsimp only
      refine wpS_bind (wpS_lift (wpAny_rule ⟨rfl, ?_⟩))
      refine wpS_bind (for_n (I := fun x c st' => Keep st st' ∧ ∃ o ia ib mg ac bc, c = (none, ia, ib, o, mg, ac, bc) ∧ Hi ρ a b o ia ib ∧ ia + ib + x ≤ ia' + ib')
        (Q := fun c st' => (∃ r c', c = (some r, c') ∧ Fine ρ a b st r st') ∨ (Keep st st' ∧ ∃ o ia ib mg ac bc, c = (none, ia, ib, o, mg, ac, bc) ∧ Hi ρ a b o ia ib ∧ ia + ib + 1 ≤ ia' + ib')) ?_ ?_ ⟨kp1, _, _, _, _, _, _, rfl, L', by omega⟩ ?_)
      · rintro y c st3 hy ⟨kp3, o3, ia3, ib3', mg3, ac3, bc3, rfl, L3, hc3⟩
        refine wpS_ite (fun _ => ?_) (fun _ => ?_)
        all_goals
          refine wpS_bind (wpS_modify ?_)
          have ha3 := L3.ha
          have hb3 := L3.hb
          have la3 := L3.la
          have lb3 := L3.lb
          obtain ⟨ib3, rfl⟩ : ∃ i, ib3' = i + 1 := ⟨ib3' - 1, by omega⟩
          obtain ⟨p, ep, ep', up⟩ := get_at Ub (show ib3 < b.size by omega)
          refine wpS_bind (wpS_elem ep (wpS_bind (gallop_right R (base := 0) (n := ia3) (hint := ia3 - 1) (kp3.kind.trans hk) Ua up (ris_take (ris_drop sa _) _) (by omega) (by omega) (fun k k1 k2 k3 => ?_))))
          dsimp only
          simp only [Nat.add_sub_cancel]
          have hlowA : ∀ x ∈ a.toList.take k, ρ x ≤ ρ p := fun x hx => k2 x (by rw [List.drop_zero]; exact hx)
          rcases Nat.eq_zero_or_pos (ia3 - k) with hk0 | hk0
          · have hk1 : k = ia3 := by omega
            subst hk1
            rw [if_neg (by omega)]
            have JA := L3.j
            have ha4 : 0 < k := by omega
            have la4 : k < a.size := by omega
            have hle4 : ∀ q, a[k - 1]? = some q → ρ q ≤ ρ p := fun q e => hlowA q (List.mem_of_getElem? (i := k - 1) (by rw [List.getElem?_take_of_lt (by omega), Array.getElem?_toList]; exact e))
            have hc4 : k + (ib3 + 1) + y ≤ ia' + ib' := by omega
            generalize o3 = o4 at JA ⊢
            generalize k = ia4 at JA ha4 la4 hle4 hc4 ⊢
            refine wpS_bind (wpS_elem ep ?_)
            obtain ⟨q, eq, eq', uq⟩ := get_at Ua (show ia4 - 1 < a.size by omega)
            have hpq := hle4 q eq
            have JB : H ρ a.toList b.toList (o4.push p).toList.reverse ia4 ib3 := by
              rw [push_r ep']
              refine JA.blockB sb ib3 (by omega) ?_
              rw [drop_one ep']
              intro x hx y hy
              rw [List.mem_singleton] at hy
              subst hy
              exact take_le sa eq' hpq x (by rw [show ia4 - 1 + 1 = ia4 by omega]; exact hx)
            by_cases c5 : ib3 = 1
            · rw [if_pos (by simpa using c5)]
              exact wpS_pure (.inl ⟨_, _, rfl, fs _ _ _ _ ⟨kp3.kind, kp3.arr, kp3.pend, kp3.fail⟩ JB (by omega)⟩)
            rw [if_neg (by simpa using c5)]
            refine wpS_bind (wpS_elem eq (wpS_bind (gallop_left R (base := 0) (n := ib3) (hint := ib3 - 1) (kp3.kind.trans hk) Ub uq (ris_take (ris_drop sb _) _) (by omega) (by omega) (fun m m1 m2 m3 => ?_))))
            dsimp only
            have hmid : ∀ y ∈ (b.toList.take ib3).drop m, ∀ x ∈ a.toList.take ia4, ρ x ≤ ρ y := fun y hy x hx => by
              obtain ⟨n, n1, n2, e⟩ := mem_mid_get hy
              rw [Array.getElem?_toList] at e
              exact take_le sa eq' (m3 n y (by omega) (by omega) e) x (by rw [show ia4 - 1 + 1 = ia4 by omega]; exact hx)
            have hlow : ∀ x ∈ b.toList.take m, ρ x ≤ ρ q := fun x hx => Nat.le_of_lt (m2 x (by rw [List.drop_zero]; exact hx))
            rcases Nat.eq_zero_or_pos (ib3 - m) with hm0 | hm0
            · have hm1 : m = ib3 := by omega
              subst hm1
              rw [if_neg (by omega)]
              have hb6 : 1 < m := by omega
              have hlb6 : m ≤ b.size := by omega
              have hle6 := hlow
              have hc6 : ia4 + m + y + 1 ≤ ia' + ib' := by omega
              generalize o4.push p = o6 at JB ⊢
              generalize m = ib6 at JB hb6 hlb6 hle6 hc6 ⊢
              obtain ⟨i4, rfl⟩ : ∃ i, ia4 = i + 1 := ⟨ia4 - 1, by omega⟩
              rw [show i4 + 1 - 1 = i4 from rfl] at eq eq'
              refine wpS_bind (wpS_elem eq ?_)
              have JC : H ρ a.toList b.toList (o6.push q).toList.reverse i4 ib6 := by
                rw [push_r eq']
                exact JB.blockA sa i4 (by omega) (by rw [drop_one eq']; exact fun x hx y hy => by rw [List.mem_singleton] at hy; subst hy; exact hle6 x hx)
              by_cases c6 : i4 = 0
              · rw [if_pos (by simpa using c6)]
                exact wpS_pure (.inl ⟨_, _, rfl, dn _ _ _ _ ⟨kp3.kind, kp3.arr, kp3.pend, kp3.fail⟩ JC (by rw [c6, List.take_zero]; exact leM _)⟩)
              rw [if_neg (by simpa using c6)]
              have L4 : Hi ρ a b (o6.push q) i4 ib6 := ⟨JC, by omega, by omega, by omega, by omega⟩
              split
              · exact wpS_pure (.inr ⟨⟨kp3.kind, kp3.arr, kp3.pend, kp3.fail⟩, _, _, _, _, _, _, rfl, L4, by omega⟩)
              · exact wpS_pure ⟨⟨kp3.kind, kp3.arr, kp3.pend, kp3.fail⟩, _, _, _, _, _, _, rfl, L4, by omega⟩
            · rw [if_pos hm0]
              have JB2 : H ρ a.toList b.toList (o4.push p ++ (b.extract m ib3).reverse).toList.reverse ia4 m := by
                rw [app_r]
                exact JB.blockB sb m m1 (fun x hx y hy => hmid y hy x hx)
              by_cases c6 : m = 1
              · rw [if_pos (by simpa using c6)]
                exact wpS_pure (.inl ⟨_, _, rfl, fs _ _ _ _ ⟨kp3.kind, kp3.arr, kp3.pend, kp3.fail⟩ JB2 (by omega)⟩)
              rw [if_neg (by simpa using c6)]
              by_cases c7 : m = 0
              · rw [if_pos (by simpa using c7)]
                exact wpS_pure (.inl ⟨_, _, rfl, dn _ _ _ _ ⟨kp3.kind, kp3.arr, kp3.pend, kp3.fail⟩ JB2 (by rw [c7, List.take_zero]; exact leN _)⟩)
              rw [if_neg (by simpa using c7)]
              clear JB
              have JB := JB2
              have hb6 : 1 < m := by omega
              have hlb6 : m ≤ b.size := by omega
              have hle6 := hlow
              have hc6 : ia4 + m + y + 1 ≤ ia' + ib' := by omega
              generalize o4.push p ++ (b.extract m ib3).reverse = o6 at JB ⊢
              generalize m = ib6 at JB hb6 hlb6 hle6 hc6 ⊢
              obtain ⟨i4, rfl⟩ : ∃ i, ia4 = i + 1 := ⟨ia4 - 1, by omega⟩
              rw [show i4 + 1 - 1 = i4 from rfl] at eq eq'
              refine wpS_bind (wpS_elem eq ?_)
              have JC : H ρ a.toList b.toList (o6.push q).toList.reverse i4 ib6 := by
                rw [push_r eq']
                exact JB.blockA sa i4 (by omega) (by rw [drop_one eq']; exact fun x hx y hy => by rw [List.mem_singleton] at hy; subst hy; exact hle6 x hx)
              by_cases c6 : i4 = 0
              · rw [if_pos (by simpa using c6)]
                exact wpS_pure (.inl ⟨_, _, rfl, dn _ _ _ _ ⟨kp3.kind, kp3.arr, kp3.pend, kp3.fail⟩ JC (by rw [c6, List.take_zero]; exact leM _)⟩)
              rw [if_neg (by simpa using c6)]
              have L4 : Hi ρ a b (o6.push q) i4 ib6 := ⟨JC, by omega, by omega, by omega, by omega⟩
              split
              · exact wpS_pure (.inr ⟨⟨kp3.kind, kp3.arr, kp3.pend, kp3.fail⟩, _, _, _, _, _, _, rfl, L4, by omega⟩)
              · exact wpS_pure ⟨⟨kp3.kind, kp3.arr, kp3.pend, kp3.fail⟩, _, _, _, _, _, _, rfl, L4, by omega⟩
          · rw [if_pos hk0]
            have JA : H ρ a.toList b.toList (o3 ++ (a.extract k ia3).reverse).toList.reverse k (ib3 + 1) := by
              rw [app_r]
              refine L3.j.blockA sa k k1 (fun x hx y hy => ?_)
              obtain ⟨n, n1, n2, e⟩ := mem_mid_get hy
              rw [Array.getElem?_toList] at e
              exact take_le sb ep' (Nat.le_of_lt (k3 n y (by omega) (by omega) e)) x hx
            by_cases c4 : k = 0
            · rw [if_pos (by simpa using c4)]
              exact wpS_pure (.inl ⟨_, _, rfl, dn _ _ _ _ ⟨kp3.kind, kp3.arr, kp3.pend, kp3.fail⟩ JA (by rw [c4, List.take_zero]; exact leM _)⟩)
            rw [if_neg (by simpa using c4)]
            have ha4 : 0 < k := by omega
            have la4 : k < a.size := by omega
            have hle4 : ∀ q, a[k - 1]? = some q → ρ q ≤ ρ p := fun q e => hlowA q (List.mem_of_getElem? (i := k - 1) (by rw [List.getElem?_take_of_lt (by omega), Array.getElem?_toList]; exact e))
            have hc4 : k + (ib3 + 1) + y ≤ ia' + ib' := by omega
            generalize o3 ++ (a.extract k ia3).reverse = o4 at JA ⊢
            generalize k = ia4 at JA ha4 la4 hle4 hc4 ⊢
            refine wpS_bind (wpS_elem ep ?_)
            obtain ⟨q, eq, eq', uq⟩ := get_at Ua (show ia4 - 1 < a.size by omega)
            have hpq := hle4 q eq
            have JB : H ρ a.toList b.toList (o4.push p).toList.reverse ia4 ib3 := by
              rw [push_r ep']
              refine JA.blockB sb ib3 (by omega) ?_
              rw [drop_one ep']
              intro x hx y hy
              rw [List.mem_singleton] at hy
              subst hy
              exact take_le sa eq' hpq x (by rw [show ia4 - 1 + 1 = ia4 by omega]; exact hx)
            by_cases c5 : ib3 = 1
            · rw [if_pos (by simpa using c5)]
              exact wpS_pure (.inl ⟨_, _, rfl, fs _ _ _ _ ⟨kp3.kind, kp3.arr, kp3.pend, kp3.fail⟩ JB (by omega)⟩)
            rw [if_neg (by simpa using c5)]
            refine wpS_bind (wpS_elem eq (wpS_bind (gallop_left R (base := 0) (n := ib3) (hint := ib3 - 1) (kp3.kind.trans hk) Ub uq (ris_take (ris_drop sb _) _) (by omega) (by omega) (fun m m1 m2 m3 => ?_))))
            dsimp only
            have hmid : ∀ y ∈ (b.toList.take ib3).drop m, ∀ x ∈ a.toList.take ia4, ρ x ≤ ρ y := fun y hy x hx => by
              obtain ⟨n, n1, n2, e⟩ := mem_mid_get hy
              rw [Array.getElem?_toList] at e
              exact take_le sa eq' (m3 n y (by omega) (by omega) e) x (by rw [show ia4 - 1 + 1 = ia4 by omega]; exact hx)
            have hlow : ∀ x ∈ b.toList.take m, ρ x ≤ ρ q := fun x hx => Nat.le_of_lt (m2 x (by rw [List.drop_zero]; exact hx))
            rcases Nat.eq_zero_or_pos (ib3 - m) with hm0 | hm0
            · have hm1 : m = ib3 := by omega
              subst hm1
              rw [if_neg (by omega)]
              have hb6 : 1 < m := by omega
              have hlb6 : m ≤ b.size := by omega
              have hle6 := hlow
              have hc6 : ia4 + m + y + 1 ≤ ia' + ib' := by omega
              generalize o4.push p = o6 at JB ⊢
              generalize m = ib6 at JB hb6 hlb6 hle6 hc6 ⊢
              obtain ⟨i4, rfl⟩ : ∃ i, ia4 = i + 1 := ⟨ia4 - 1, by omega⟩
              rw [show i4 + 1 - 1 = i4 from rfl] at eq eq'
              refine wpS_bind (wpS_elem eq ?_)
              have JC : H ρ a.toList b.toList (o6.push q).toList.reverse i4 ib6 := by
                rw [push_r eq']
                exact JB.blockA sa i4 (by omega) (by rw [drop_one eq']; exact fun x hx y hy => by rw [List.mem_singleton] at hy; subst hy; exact hle6 x hx)
              by_cases c6 : i4 = 0
              · rw [if_pos (by simpa using c6)]
                exact wpS_pure (.inl ⟨_, _, rfl, dn _ _ _ _ ⟨kp3.kind, kp3.arr, kp3.pend, kp3.fail⟩ JC (by rw [c6, List.take_zero]; exact leM _)⟩)
              rw [if_neg (by simpa using c6)]
              have L4 : Hi ρ a b (o6.push q) i4 ib6 := ⟨JC, by omega, by omega, by omega, by omega⟩
              split
              · exact wpS_pure (.inr ⟨⟨kp3.kind, kp3.arr, kp3.pend, kp3.fail⟩, _, _, _, _, _, _, rfl, L4, by omega⟩)
              · exact wpS_pure ⟨⟨kp3.kind, kp3.arr, kp3.pend, kp3.fail⟩, _, _, _, _, _, _, rfl, L4, by omega⟩
            · rw [if_pos hm0]
              have JB2 : H ρ a.toList b.toList (o4.push p ++ (b.extract m ib3).reverse).toList.reverse ia4 m := by
                rw [app_r]
                exact JB.blockB sb m m1 (fun x hx y hy => hmid y hy x hx)
              by_cases c6 : m = 1
              · rw [if_pos (by simpa using c6)]
                exact wpS_pure (.inl ⟨_, _, rfl, fs _ _ _ _ ⟨kp3.kind, kp3.arr, kp3.pend, kp3.fail⟩ JB2 (by omega)⟩)
              rw [if_neg (by simpa using c6)]
              by_cases c7 : m = 0
              · rw [if_pos (by simpa using c7)]
                exact wpS_pure (.inl ⟨_, _, rfl, dn _ _ _ _ ⟨kp3.kind, kp3.arr, kp3.pend, kp3.fail⟩ JB2 (by rw [c7, List.take_zero]; exact leN _)⟩)
              rw [if_neg (by simpa using c7)]
              clear JB
              have JB := JB2
              have hb6 : 1 < m := by omega
              have hlb6 : m ≤ b.size := by omega
              have hle6 := hlow
              have hc6 : ia4 + m + y + 1 ≤ ia' + ib' := by omega
              generalize o4.push p ++ (b.extract m ib3).reverse = o6 at JB ⊢
              generalize m = ib6 at JB hb6 hlb6 hle6 hc6 ⊢
              obtain ⟨i4, rfl⟩ : ∃ i, ia4 = i + 1 := ⟨ia4 - 1, by omega⟩
              rw [show i4 + 1 - 1 = i4 from rfl] at eq eq'
              refine wpS_bind (wpS_elem eq ?_)
              have JC : H ρ a.toList b.toList (o6.push q).toList.reverse i4 ib6 := by
                rw [push_r eq']
                exact JB.blockA sa i4 (by omega) (by rw [drop_one eq']; exact fun x hx y hy => by rw [List.mem_singleton] at hy; subst hy; exact hle6 x hx)
              by_cases c6 : i4 = 0
              · rw [if_pos (by simpa using c6)]
                exact wpS_pure (.inl ⟨_, _, rfl, dn _ _ _ _ ⟨kp3.kind, kp3.arr, kp3.pend, kp3.fail⟩ JC (by rw [c6, List.take_zero]; exact leM _)⟩)
              rw [if_neg (by simpa using c6)]
              have L4 : Hi ρ a b (o6.push q) i4 ib6 := ⟨JC, by omega, by omega, by omega, by omega⟩
              split
              · exact wpS_pure (.inr ⟨⟨kp3.kind, kp3.arr, kp3.pend, kp3.fail⟩, _, _, _, _, _, _, rfl, L4, by omega⟩)
              · exact wpS_pure ⟨⟨kp3.kind, kp3.arr, kp3.pend, kp3.fail⟩, _, _, _, _, _, _, rfl, L4, by omega⟩
      · rintro c st3 ⟨kp, o, ia, ib, mg, ac, bc, rfl, L, hc⟩
        exact .inr ⟨kp, _, _, _, _, _, _, rfl, L, by omega⟩
      · rintro c st3 (⟨r, c', rfl, fr⟩ | ⟨kp, o, ia2, ib2, mg, ac, bc, rfl, L2, hc2⟩)
        · exact wpS_pure ⟨_, _, rfl, fr⟩
        · dsimp only
          exact wpS_bind (wpS_modify (wpS_pure ⟨⟨kp.kind, kp.arr, kp.pend, kp.fail⟩, _, _, _, _, rfl, L2, by omega⟩))
  · rintro c st1 ⟨kp, o, ia, ib, mg, rfl, L, hc⟩
    have := L.ha
    have := L.hb
    omega
  · rintro c st1 ⟨r, c', rfl, fr⟩
    exact wpS_pure (h _ _ fr)
end Ti

set_option maxRecDepth 100000
set_option linter.all false
namespace Ti
open PySem PyProof.Rows
/-! ### pieces of a list -/
def seg (l : List Keyed) (lo hi : Nat) : List Keyed := (l.take hi).drop lo
section
variable {ρ : Keyed → Nat} {l : List Keyed}
theorem seg_dt (l : List Keyed) (lo n : Nat) : (l.drop lo).take n = seg l lo (lo + n) := by
  unfold seg
  rw [List.drop_take, show lo + n - lo = n by omega]
theorem take_seg {lo hi : Nat} (h : lo ≤ hi) : l.take hi = l.take lo ++ seg l lo hi := by
  unfold seg
  have : l.take lo = (l.take hi).take lo := by rw [List.take_take, Nat.min_eq_left h]
  rw [this, List.take_append_drop]
theorem drop_seg {lo hi : Nat} (h : lo ≤ hi) : l.drop lo = seg l lo hi ++ l.drop hi := by
  have e := seg_dt l lo (hi - lo)
  rw [show lo + (hi - lo) = hi by omega] at e
  rw [← e]
  have : l.drop hi = (l.drop lo).drop (hi - lo) := by rw [List.drop_drop, show lo + (hi - lo) = hi by omega]
  rw [this, List.take_append_drop]
theorem seg_app {lo m hi : Nat} (h1 : lo ≤ m) (h2 : m ≤ hi) : seg l lo hi = seg l lo m ++ seg l m hi := by
  have e1 := take_seg (l := l) (Nat.le_trans h1 h2)
  have e2 := take_seg (l := l) h2
  have e3 := take_seg (l := l) h1
  rw [e3, e1, List.append_assoc] at e2
  exact List.append_cancel_left e2
theorem seg_len {lo hi : Nat} (h : hi ≤ l.length) : (seg l lo hi).length = hi - lo := by
  unfold seg
  rw [List.length_drop, List.length_take]
  omega
theorem seg_mem {lo hi : Nat} {y : Keyed} (h : y ∈ seg l lo hi) : ∃ j, lo ≤ j ∧ j < hi ∧ l[j]? = some y := mem_mid_get h
theorem seg_get {lo hi j : Nat} {y : Keyed} (h1 : lo ≤ j) (h2 : j < hi) (e : l[j]? = some y) : (seg l lo hi)[j - lo]? = some y := by
  unfold seg
  rw [List.getElem?_drop, show lo + (j - lo) = j by omega, List.getElem?_take_of_lt h2]
  exact e
theorem seg_in {lo hi j : Nat} {y : Keyed} (h1 : lo ≤ j) (h2 : j < hi) (e : l[j]? = some y) : y ∈ seg l lo hi := List.mem_of_getElem? (seg_get h1 h2 e)
theorem seg_le {lo hi i j : Nat} {x y : Keyed} (h : Ris ρ (seg l lo hi)) (h1 : lo ≤ i) (h2 : i ≤ j) (h3 : j < hi) (ei : l[i]? = some x) (ej : l[j]? = some y) : ρ x ≤ ρ y :=
  first_le h (seg_get h1 (by omega) ei) (seg_get (by omega) h3 ej) (by omega)
theorem seg_sub {lo hi a b : Nat} (h : Ris ρ (seg l lo hi)) (h1 : lo ≤ a) (h3 : b ≤ hi) : Ris ρ (seg l a b) := by
  rcases Nat.lt_or_ge b a with hba | hba
  · have : seg l a b = [] := List.drop_of_length_le (by rw [List.length_take]; omega)
    rw [this]
    exact .nil
  rw [seg_app h1 (Nat.le_trans hba h3), seg_app hba h3] at h
  exact (List.pairwise_append.mp (List.pairwise_append.mp h).2.1).1
theorem fold_set (base : Nat) : ∀ (r : List Keyed) (d : Nat) (arr : Array Keyed), base + d + r.length ≤ arr.size →
    ((r.zipIdx d).foldl (fun a x => match x with | (p, j) => a.setIfInBounds (base + j) p) arr).toList = arr.toList.take (base + d) ++ r ++ arr.toList.drop (base + d + r.length)
  | [], d, arr, _ => by simp
  | p :: r, d, arr, h => by
    rw [List.zipIdx_cons, List.foldl_cons]
    have hs : (arr.setIfInBounds (base + d) p).size = arr.size := by simp
    have hd : base + d < arr.size := by simp at h; omega
    rw [fold_set base r (d + 1) _ (by rw [hs]; simp at h; omega), Array.toList_setIfInBounds]
    have e1 : (arr.toList.set (base + d) p).take (base + (d + 1)) = arr.toList.take (base + d) ++ [p] := by
      rw [show base + (d + 1) = base + d + 1 by omega, List.take_succ, List.getElem?_set_self (by simpa using hd), List.take_set_of_le (Nat.le_refl _)]
      rfl
    have e2 : (arr.toList.set (base + d) p).drop (base + (d + 1) + r.length) = arr.toList.drop (base + d + (p :: r).length) := by
      rw [List.drop_set_of_lt (by omega)]
      congr 1
      simp only [List.length_cons]
      omega
    rw [e1, e2]
    simp
end
variable {prog : Program} {w : World} {A : Around} {E : Value → Shared → Prop} {s : Shared} {κ : SortKind} {U : Keyed → Prop} {ρ : Keyed → Nat}
theorem wpS_set {Q : PUnit → SortSt → Prop} {st st' : SortSt} (h : Q ⟨⟩ st') : wpS (model prog w) A E s (set st' : StateT SortSt Sem PUnit) Q st := wpAny_pure ⟨rfl, h⟩
theorem wpS_mergeAt (R : Rk prog w A E s κ U ρ) {st : SortSt} {i sa na nb pw pw' : Nat} {Q : Bool → SortSt → Prop} (hk : kindOf st = κ) (hU : ∀ p ∈ (arrOf st).toList, U p) (hf : failedOf st = none)
    (e1 : (pendingOf st)[i]? = some (sa, na, pw)) (e2 : (pendingOf st)[i + 1]? = some (sa + na, nb, pw')) (hna : 0 < na) (hnb : 0 < nb) (hsz : sa + na + nb ≤ (arrOf st).size)
    (s1 : Ris ρ (seg (arrOf st).toList sa (sa + na))) (s2 : Ris ρ (seg (arrOf st).toList (sa + na) (sa + na + nb)))
    (h : ∀ st', kindOf st' = κ → failedOf st' = none → pendingOf st' = ((pendingOf st).setIfInBounds i (sa, na + nb, pw)).eraseIdxIfInBounds (i + 1) → ∀ Z, (arrOf st').toList = (arrOf st).toList.take sa ++ Z ++ (arrOf st).toList.drop (sa + na + nb) →
      Z.Perm (seg (arrOf st).toList sa (sa + na + nb)) → Ris ρ Z → Q true st') : wpS (model prog w) A E s (mergeAt' i) Q st := by
  refine wpS_bind (wpS_get ?_)
  have e1' := e1
  have e2' := e2
  unfold pendingOf at e1' e2'
  rw [e1', e2']
  dsimp only
  refine wpS_bind (wpS_set ?_)
  generalize hL : (arrOf st).toList = L at *
  have hLs : L.length = (arrOf st).size := by rw [← hL]; simp
  have gt : ∀ j, j < L.length → ∃ p, (arrOf st)[j]? = some p ∧ L[j]? = some p ∧ U p := fun j hj => by
    have := get_at (a := arrOf st) (U := U) (by rw [hL]; exact hU) (i := j) (by omega)
    rw [hL] at this
    exact this
  have tl : ∀ j p, (arrOf st)[j]? = some p → L[j]? = some p := fun j p e => by rw [← hL, Array.getElem?_toList]; exact e
  have hz2 : sa + na + nb ≤ (arrOf st).size := hsz
  have hz1 : sa + na ≤ (arrOf st).size := Nat.le_trans (Nat.le_add_right _ _) hsz
  obtain ⟨y0, ey, ey', uy⟩ := gt (sa + na) (by omega)
  refine wpS_bind (wpS_elem ey (wpS_bind (gallop_right R (base := sa) (n := na) hk (by rw [hL]; exact hU) uy (by rw [hL, seg_dt]; exact s1) hz1 hna (fun k k1 k2 k3 => ?_))))
  dsimp only
  rw [hL, seg_dt] at k2
  have yle : ∀ y ∈ seg L (sa + na) (sa + na + nb), ρ y0 ≤ ρ y := fun y hy => by
    obtain ⟨j, j1, j2, e⟩ := seg_mem hy
    exact seg_le s2 (Nat.le_refl _) j1 j2 ey' e
  by_cases c1 : na - k = 0
  · rw [if_pos (by simpa using c1)]
    have hk1 : k = na := by omega
    subst hk1
    refine wpS_pure (h _ hk hf rfl (seg L sa (sa + k + nb)) ?_ .rfl ?_)
    · rw [hL, ← take_seg (by omega), List.take_append_drop]
    · rw [seg_app (show sa ≤ sa + k by omega) (show sa + k ≤ sa + k + nb by omega)]
      exact List.pairwise_append.mpr ⟨s1, s2, fun x hx y hy => Nat.le_trans (k2 x hx) (yle y hy)⟩
  rw [if_neg (by simpa using c1)]
  obtain ⟨xl, ex, ex', ux⟩ := gt (sa + k + (na - k) - 1) (by omega)
  have exi : sa + k + (na - k) - 1 = sa + na - 1 := by omega
  have hyx : ρ y0 < ρ xl := k3 _ xl (by omega) (by omega) ex
  refine wpS_bind (wpS_elem ex (wpS_bind (gallop_left R (base := sa + na) (n := nb) (hint := nb - 1) hk (by rw [hL]; exact hU) ux (by rw [hL, seg_dt]; exact s2) hz2 (by omega) (fun m m1 m2 m3 => ?_))))
  dsimp only
  rw [hL, seg_dt] at m2
  by_cases c2 : m = 0
  · subst c2
    have := m3 (sa + na) y0 (by omega) (by omega) ey
    omega
  rw [if_neg (by simpa using c2)]
  have xL : ((arrOf st).extract (sa + k) (sa + na)).toList = seg L (sa + k) (sa + na) := by rw [toM, hL]; rfl
  have yL : ((arrOf st).extract (sa + na) (sa + na + m)).toList = seg L (sa + na) (sa + na + m) := by rw [toM, hL]; rfl
  have xs : ((arrOf st).extract (sa + k) (sa + na)).size = na - k := by rw [← Array.length_toList, xL, seg_len (by omega)]; omega
  have ys : ((arrOf st).extract (sa + na) (sa + na + m)).size = m := by rw [← Array.length_toList, yL, seg_len (by omega)]; omega
  have inL : ∀ lo hi, ∀ p ∈ seg L lo hi, U p := fun lo hi p hp => hU p (List.mem_of_mem_take (List.mem_of_mem_drop hp))
  have sx : Ris ρ (seg L (sa + k) (sa + na)) := seg_sub s1 (by omega) (Nat.le_refl _)
  have sy : Ris ρ (seg L (sa + na) (sa + na + m)) := seg_sub s2 (Nat.le_refl _) (by omega)
  have fin : ∀ (r : Array Keyed) (st' : SortSt), Keep (SortSt.mk' (kindOf st) (arrOf st) (((pendingOf st).setIfInBounds i (sa, na + nb, pw)).eraseIdxIfInBounds (i + 1)) (gallopOf st) (failedOf st)) st' → r.toList.Perm (seg L (sa + k) (sa + na) ++ seg L (sa + na) (sa + na + m)) → Ris ρ r.toList →
      Q (failedOf st').isNone (SortSt.mk' (kindOf st') (r.toList.zipIdx.foldl (fun a x => match x with | (p, j) => a.setIfInBounds (sa + k + j) p) (arrOf st')) (pendingOf st') (gallopOf st') (failedOf st')) := fun r st' kp pm so => by
    have hfl : failedOf st' = none := kp.fail.trans hf
    have e3 : (failedOf st').isNone = true := by rw [hfl]; rfl
    rw [e3]
    have rl : r.toList.length = na - k + m := by rw [pm.length_eq, List.length_append, seg_len (by omega), seg_len (by omega)]; omega
    have ea : arrOf st' = arrOf st := kp.arr
    refine h _ (kp.kind.trans hk) hfl kp.pend (seg L sa (sa + k) ++ r.toList ++ seg L (sa + na + m) (sa + na + nb)) ?_ ?_ ?_
    · show (r.toList.zipIdx.foldl _ (arrOf st')).toList = _
      have := fold_set (sa + k) r.toList 0 (arrOf st') (by rw [ea, rl]; omega)
      rw [this, ea, hL, rl, Nat.add_zero, show sa + k + (na - k + m) = sa + na + m by omega, take_seg (show sa ≤ sa + k by omega), drop_seg (show sa + na + m ≤ sa + na + nb by omega)]
      simp only [List.append_assoc]
    · rw [seg_app (show sa ≤ sa + k by omega) (show sa + k ≤ sa + na + nb by omega), seg_app (show sa + k ≤ sa + na by omega) (show sa + na ≤ sa + na + nb by omega), seg_app (show sa + na ≤ sa + na + m by omega) (show sa + na + m ≤ sa + na + nb by omega)]
      simp only [List.append_assoc]
      refine List.Perm.append_left _ ?_
      have := pm.append_right (seg L (sa + na + m) (sa + na + nb))
      simpa only [List.append_assoc] using this
    · have hin : ∀ z ∈ r.toList, z ∈ seg L (sa + k) (sa + na) ∨ z ∈ seg L (sa + na) (sa + na + m) := fun z hz => List.mem_append.mp (pm.mem_iff.mp hz)
      refine List.pairwise_append.mpr ⟨List.pairwise_append.mpr ⟨seg_sub s1 (Nat.le_refl _) (by omega), so, fun x hx y hy => ?_⟩, seg_sub s2 (by omega) (Nat.le_refl _), fun x hx y hy => ?_⟩
      · rcases hin y hy with hy | hy
        · obtain ⟨j1, a1, a2, a3⟩ := seg_mem hx
          obtain ⟨j2, b1, b2, b3⟩ := seg_mem hy
          exact seg_le s1 a1 (by omega) b2 a3 b3
        · obtain ⟨j2, b1, b2, b3⟩ := seg_mem hy
          exact Nat.le_trans (k2 x hx) (yle y (seg_in b1 (by omega) b3))
      · obtain ⟨j2, b1, b2, b3⟩ := seg_mem hy
        have xly : ρ xl ≤ ρ y := by
          have e : (arrOf st)[j2]? = some y := by rw [← Array.getElem?_toList, hL]; exact b3
          exact m3 j2 y (by omega) (by omega) e
        rcases List.mem_append.mp hx with hx | hx
        · exact Nat.le_trans (k2 x hx) (yle y (seg_in (by omega) b2 b3))
        · rcases hin x hx with hx | hx
          · obtain ⟨j1, a1, a2, a3⟩ := seg_mem hx
            exact Nat.le_trans (seg_le s1 (by omega) (by omega) (by omega) a3 ex') xly
          · obtain ⟨j1, a1, a2, a3⟩ := seg_mem hx
            exact seg_le s2 a1 (by omega) b2 a3 b3
  have p0 : ∀ p, ((arrOf st).extract (sa + na) (sa + na + m))[0]? = some p → ∀ y ∈ ((arrOf st).extract (sa + k) (sa + na)).toList, ρ p ≤ ρ y := fun p e y hy => by
    rw [xL] at hy
    obtain ⟨j, j1, j2, e3⟩ := seg_mem hy
    have e4 : p = y0 := by
      rw [← Array.getElem?_toList, yL] at e
      have := seg_get (l := L) (lo := sa + na) (hi := sa + na + m) (Nat.le_refl _) (by omega) ey'
      rw [Nat.sub_self, e] at this
      cases this
      rfl
    subst e4
    have e5 : (arrOf st)[j]? = some y := by rw [← Array.getElem?_toList, hL]; exact e3
    exact Nat.le_of_lt (k3 j y (by omega) (by omega) e5)
  have pl : Le ρ ((arrOf st).extract (sa + na) (sa + na + m)).toList (((arrOf st).extract (sa + k) (sa + na)).toList.drop (((arrOf st).extract (sa + k) (sa + na)).size - 1)) := fun x hx y hy => by
    rw [yL] at hx
    rw [xL, xs] at hy
    obtain ⟨j, j1, e3⟩ := mem_drop_get hy
    have hj := (List.getElem?_eq_some_iff.mp e3).1
    rw [seg_len (by omega)] at hj
    have hj2 : j = na - k - 1 := by omega
    have := seg_get (l := L) (lo := sa + k) (hi := sa + na) (j := sa + k + (na - k) - 1) (by omega) (by omega) ex'
    rw [show sa + k + (na - k) - 1 - (sa + k) = j by omega, e3] at this
    cases this
    exact Nat.le_of_lt (m2 x hx)
  refine wpS_ite (fun _ => ?_) (fun _ => ?_)
  · refine wpS_bind (wpS_mergeLo R hk (by rw [xL]; exact inL _ _) (by rw [yL]; exact inL _ _) (by rw [xL]; exact sx) (by rw [yL]; exact sy) (by rw [xs]; omega) (by rw [ys]; omega) p0 pl fun r st' ⟨kp, pm, so⟩ => ?_)
    rw [xL, yL] at pm
    exact wpS_bind (wpS_modify (wpS_bind (wpS_get (wpS_pure (fin r st' kp pm so)))))
  · refine wpS_bind (wpS_mergeHi R hk (by rw [xL]; exact inL _ _) (by rw [yL]; exact inL _ _) (by rw [xL]; exact sx) (by rw [yL]; exact sy) (by rw [xs]; omega) (by rw [ys]; omega) p0 pl fun r st' ⟨kp, pm, so⟩ => ?_)
    rw [xL, yL] at pm
    exact wpS_bind (wpS_modify (wpS_bind (wpS_get (wpS_pure (fin r st' kp pm so)))))
end Ti

set_option maxRecDepth 100000
set_option linter.all false
namespace Ti
open PySem PyProof.Rows
/-! ### one run -/
def kk (ρ : Keyed → Nat) (a : Array Keyed) (i : Nat) : Nat := match a[i]? with
  | some p => ρ p
  | none => 0
section
variable {ρ : Keyed → Nat} {a b c : Array Keyed}
theorem kk_of {i : Nat} {p : Keyed} (h : a[i]? = some p) : kk ρ a i = ρ p := by unfold kk; rw [h]
theorem kk_eq {i j : Nat} (h : a[i]? = b[j]?) : kk ρ a i = kk ρ b j := by unfold kk; rw [h]
def Srt (ρ : Keyed → Nat) (a : Array Keyed) (lo hi : Nat) : Prop := ∀ i j, lo ≤ i → i ≤ j → j < hi → kk ρ a i ≤ kk ρ a j
def Dsc (ρ : Keyed → Nat) (a : Array Keyed) (lo hi : Nat) : Prop := ∀ i j, lo ≤ i → i ≤ j → j < hi → kk ρ a j ≤ kk ρ a i
structure Chg (a b : Array Keyed) (lo hi : Nat) : Prop where
  pm : b.Perm a
  out : ∀ k, k < lo ∨ hi ≤ k → b[k]? = a[k]?
theorem Chg.refl (a : Array Keyed) (lo hi : Nat) : Chg a a lo hi := ⟨.rfl, fun _ _ => rfl⟩
theorem Chg.trans {lo hi : Nat} (h : Chg a b lo hi) (h' : Chg b c lo hi) : Chg a c lo hi := ⟨h'.pm.trans h.pm, fun k hk => (h'.out k hk).trans (h.out k hk)⟩
theorem Chg.mono {lo hi lo' hi' : Nat} (h : Chg a b lo hi) (h1 : lo' ≤ lo) (h2 : hi ≤ hi') : Chg a b lo' hi' := ⟨h.pm, fun k hk => h.out k (by omega)⟩
theorem Chg.size {lo hi : Nat} (h : Chg a b lo hi) : b.size = a.size := h.pm.size_eq
theorem Chg.all {lo hi : Nat} {U : Keyed → Prop} (h : Chg a b lo hi) (hU : ∀ p ∈ a.toList, U p) : ∀ p ∈ b.toList, U p := fun p hp => hU p ((Array.perm_iff_toList_perm.mp h.pm).mem_iff.mp hp)
theorem chg_mir {i j : Nat} (hj : j ≤ a.size) : Chg a (mirror a i j ((j - i) / 2)) i j := ⟨mirror_perm _ _ _ _, fun k hk => by rw [getElem?_mirror_all hj, if_neg (by omega)]⟩
theorem kk_mir {i j : Nat} (hj : j ≤ a.size) (k : Nat) : kk ρ (mirror a i j ((j - i) / 2)) k = if i ≤ k ∧ k < j then kk ρ a (i + j - 1 - k) else kk ρ a k := by
  have e := getElem?_mirror_all (xs := a) (i := i) hj k
  split
  · rename_i h; rw [if_pos h] at e; exact kk_eq e
  · rename_i h; rw [if_neg h] at e; exact kk_eq e
theorem kk_mir_same {i j : Nat} (hj : j ≤ a.size) (hs : ∀ x y, i ≤ x → x < j → i ≤ y → y < j → kk ρ a x = kk ρ a y) (k : Nat) : kk ρ (mirror a i j ((j - i) / 2)) k = kk ρ a k := by
  rw [kk_mir hj]
  split
  · exact hs _ _ (by omega) (by omega) (by omega) (by omega)
  · rfl
end
structure Kp (st st' : SortSt) : Prop where
  kind : kindOf st' = kindOf st
  pend : pendingOf st' = pendingOf st
  fail : failedOf st' = failedOf st
theorem Kp.refl (st : SortSt) : Kp st st := ⟨rfl, rfl, rfl⟩
variable {prog : Program} {w : World} {A : Around} {E : Value → Shared → Prop} {s : Shared} {κ : SortKind} {U : Keyed → Prop} {ρ : Keyed → Nat}
theorem ltAt_k (R : Rk prog w A E s κ U ρ) {st : SortSt} {i j : Nat} {Q : Option Bool → SortSt → Prop} (hk : kindOf st = κ) (hU : ∀ p ∈ (arrOf st).toList, U p) (hi : i < (arrOf st).size) (hj : j < (arrOf st).size)
    (h : Q (some (decide (kk ρ (arrOf st) i < kk ρ (arrOf st) j))) st) : wpS (model prog w) A E s (ltAt' i j) Q st := by
  obtain ⟨p, ep, _, up⟩ := get_at hU hi
  obtain ⟨q, eq, _, uq⟩ := get_at hU hj
  rw [kk_of ep, kk_of eq] at h
  rw [ltAt'_eq]
  exact wpS_bind (wpS_get (wpS_bind (wpS_elem ep (wpS_bind (wpS_elem eq (R.lt p q up uq st Q hk h))))))
/-- on and on as long as it rises -/
theorem asc_ok {lo nrem a : Nat} {st : SortSt} {Q : Option (Option Nat) × Nat → SortSt → Prop} {f : Nat → Option (Option Nat) × Nat → StateT SortSt Sem (ForInStep (Option (Option Nat) × Nat))}
    (hf : ∀ x n Rr, 1 ≤ n → n < nrem → (kk ρ (arrOf st) (lo + n) < kk ρ (arrOf st) (lo + n - 1) → Rr (.done (none, n)) st) → (¬ kk ρ (arrOf st) (lo + n) < kk ρ (arrOf st) (lo + n - 1) → Rr (.yield (none, n + 1)) st) → wpS (model prog w) A E s (f x (none, n)) Rr st)
    (ha : 1 ≤ a) (han : a ≤ nrem) (hs : Srt ρ (arrOf st) lo (lo + a)) (h : ∀ n, a ≤ n → n ≤ nrem → Srt ρ (arrOf st) lo (lo + n) → (n < nrem → kk ρ (arrOf st) (lo + n) < kk ρ (arrOf st) (lo + n - 1)) → Q (none, n) st) :
    wpS (model prog w) A E s (forIn [a:nrem] (none, a) f) Q st := by
  refine wpS_forRange (a := a) (b := nrem) (I := fun x c st' => st' = st ∧ c = (none, x) ∧ a ≤ x ∧ Srt ρ (arrOf st) lo (lo + x)) ?_ ?_ ⟨rfl, rfl, Nat.le_refl _, hs⟩
  · rintro x c st' hx1 hx2 ⟨rfl, rfl, h1, h2⟩
    refine hf x x _ (by omega) hx2 (fun hlt => h x h1 (by omega) h2 fun _ => hlt) (fun hnl => ⟨rfl, rfl, by omega, fun i j i1 i2 i3 => ?_⟩)
    by_cases hj : j < lo + x
    · exact h2 i j i1 i2 hj
    · have hj' : j = lo + x := by omega
      subst hj'
      by_cases hi : i = lo + x
      · rw [hi]; exact Nat.le_refl _
      · have := h2 i (lo + x - 1) i1 (by omega) (by omega)
        omega
  · rintro c st' ⟨rfl, rfl, h1, h2⟩
    have e : max a nrem = nrem := by omega
    rw [e] at h2 ⊢
    exact h nrem han (Nat.le_refl _) h2 fun z => absurd z (Nat.lt_irrefl _)
def DI (ρ : Keyed → Nat) (st : SortSt) (lo n nrem x eqn : Nat) (st' : SortSt) : Prop := n + 1 ≤ x ∧ x ≤ nrem ∧ Kp st st' ∧ Chg (arrOf st) (arrOf st') lo (lo + x) ∧ Dsc ρ (arrOf st') lo (lo + x) ∧ eqn + 1 ≤ x ∧
  ∀ i j, lo + x - (eqn + 1) ≤ i → i < lo + x → lo + x - (eqn + 1) ≤ j → j < lo + x → kk ρ (arrOf st') i = kk ρ (arrOf st') j
theorem wpS_countRun (R : Rk prog w A E s κ U ρ) {st : SortSt} {lo nrem : Nat} {Q : Option Nat → SortSt → Prop} (hk : kindOf st = κ) (hU : ∀ p ∈ (arrOf st).toList, U p) (hsz : lo + nrem ≤ (arrOf st).size) (h1 : 1 ≤ nrem)
    (h : ∀ n st', 1 ≤ n → n ≤ nrem → Kp st st' → Chg (arrOf st) (arrOf st') lo (lo + n) → Srt ρ (arrOf st') lo (lo + n) → Q (some n) st') : wpS (model prog w) A E s (countRun' lo nrem) Q st := by
  refine wpS_bind (asc_ok (ρ := ρ) (lo := lo) (fun x n Rr n1 n2 r1 r2 => ?_) (Nat.le_refl 1) h1 (fun i j i1 i2 i3 => ?_) fun n n1 n2 hs hd => ?_)
  · dsimp only
    refine wpS_bind (ltAt_k R hk hU (by omega) (by omega) ?_)
    dsimp only
    by_cases c : kk ρ (arrOf st) (lo + n) < kk ρ (arrOf st) (lo + n - 1)
    · rw [if_pos (decide_eq_true c)]
      exact wpS_pure (r1 c)
    · rw [if_neg (by simpa using c)]
      exact wpS_pure (r2 c)
  · have : i = j := by omega
    rw [this]
    exact Nat.le_refl _
  dsimp only
  by_cases c1 : n = nrem
  · rw [if_pos (by simpa using c1)]
    exact wpS_pure (h n st n1 n2 (Kp.refl _) (Chg.refl _ _ _) hs)
  rw [if_neg (by simpa using c1)]
  have hdn := hd (by omega)
  -- all that comes behind, of a state whose run is level
  refine wpS_ite (fun hn1 => ?_) (fun hn1 => ?_)
  · refine wpS_bind (ltAt_k R hk hU (by omega) (by omega) ?_)
    dsimp only
    by_cases c2 : kk ρ (arrOf st) lo < kk ρ (arrOf st) (lo + n - 1)
    · rw [if_pos (decide_eq_true c2)]
      exact wpS_pure (h n st n1 n2 (Kp.refl _) (Chg.refl _ _ _) hs)
    rw [if_neg (by simpa using c2)]
    have lev : ∀ x y, lo ≤ x → x < lo + n → lo ≤ y → y < lo + n → kk ρ (arrOf st) x = kk ρ (arrOf st) y := fun x y x1 x2 y1 y2 => by
      have a1 := hs lo x (Nat.le_refl _) x1 x2
      have a2 := hs x (lo + n - 1) x1 (by omega) (by omega)
      have a3 := hs lo y (Nat.le_refl _) y1 y2
      have a4 := hs y (lo + n - 1) y1 (by omega) (by omega)
      omega
    refine wpS_bind (wpS_reverse ?_)
    have hm := chg_mir (a := arrOf st) (i := lo) (j := lo + n) (by omega)
    have hkm := kk_mir_same (ρ := ρ) (a := arrOf st) (i := lo) (j := lo + n) (by omega) lev
    have d0 : DI ρ st lo n nrem (n + 1) 0 (setArr st (mirror (arrOf st) lo (lo + n) ((lo + n - lo) / 2))) := by
      refine ⟨Nat.le_refl _, by omega, ⟨rfl, rfl, rfl⟩, hm.mono (Nat.le_refl _) (by omega), fun i j i1 i2 i3 => ?_, by omega, fun i j i1 i2 i3 i4 => ?_⟩
      · show kk ρ (mirror _ _ _ _) j ≤ kk ρ (mirror _ _ _ _) i
        rw [hkm, hkm]
        by_cases hj : j < lo + n
        · exact Nat.le_of_eq (lev j i (by omega) hj i1 (by omega))
        · have hj' : j = lo + n := by omega
          subst hj'
          by_cases hi : i = lo + n
          · rw [hi]; exact Nat.le_refl _
          · have := lev i (lo + n - 1) i1 (by omega) (by omega) (by omega)
            omega
      · have : i = j := by omega
        rw [this]
    refine wpS_bind (wpS_lift (wpAny_rule ⟨rfl, ?_⟩))
    refine wpS_bind (wpS_mono (wpS_forRange (a := n + 1) (b := nrem) (I := fun x c st' => ∃ eqn, c = (none, x, eqn) ∧ DI ρ st lo n nrem x eqn st') (Q := fun c st' => ∃ x eqn, c = (none, x, eqn) ∧ DI ρ st lo n nrem x eqn st') ?_ ?_ ⟨0, rfl, d0⟩) ?_)
    · rintro x c st2 xa xb ⟨eqn, rfl, D⟩
      dsimp only
      obtain ⟨x1, x2, kp2, cg2, ds2, e1, lv⟩ := D
      have hz2 : (arrOf st2).size = (arrOf st).size := cg2.size
      have hk2 : kindOf st2 = κ := kp2.kind.trans hk
      have hU2 := cg2.all hU
      refine wpS_bind (ltAt_k R hk2 hU2 (by omega) (by omega) ?_)
      dsimp only
      by_cases c3 : kk ρ (arrOf st2) (lo + x) < kk ρ (arrOf st2) (lo + x - 1)
      · rw [if_pos (decide_eq_true c3)]
        have more : ∀ b : Array Keyed, (∀ k, kk ρ b k = kk ρ (arrOf st2) k) → Dsc ρ b lo (lo + (x + 1)) := fun b hb i j i1 i2 i3 => by
          rw [hb, hb]
          by_cases hj : j < lo + x
          · exact ds2 i j i1 i2 hj
          · have hj' : j = lo + x := by omega
            subst hj'
            by_cases hi : i = lo + x
            · rw [hi]; exact Nat.le_refl _
            · have := ds2 i (lo + x - 1) i1 (by omega) (by omega)
              omega
        refine wpS_ite (fun he => ?_) (fun he => ?_)
        · refine wpS_bind (wpS_reverse ?_)
          have hm2 := chg_mir (a := arrOf st2) (i := lo + x - (eqn + 1)) (j := lo + x) (by omega)
          have hk2' := kk_mir_same (ρ := ρ) (a := arrOf st2) (i := lo + x - (eqn + 1)) (j := lo + x) (by omega) (fun i j i1 i2 i3 i4 => lv i j i1 i2 i3 i4)
          refine wpS_pure ⟨0, rfl, by omega, by omega, ⟨kp2.kind, kp2.pend, kp2.fail⟩, (cg2.mono (Nat.le_refl _) (by omega)).trans (hm2.mono (by omega) (by omega)), more _ hk2', by omega, fun i j i1 i2 i3 i4 => ?_⟩
          have : i = j := by omega
          rw [this]
        · refine wpS_pure ⟨0, rfl, by omega, by omega, kp2, cg2.mono (Nat.le_refl _) (by omega), more _ fun _ => rfl, by omega, fun i j i1 i2 i3 i4 => ?_⟩
          have : i = j := by omega
          rw [this]
      · rw [if_neg (by simpa using c3)]
        refine wpS_bind (ltAt_k R hk2 hU2 (by omega) (by omega) ?_)
        dsimp only
        by_cases c4 : kk ρ (arrOf st2) (lo + x - 1) < kk ρ (arrOf st2) (lo + x)
        · rw [if_pos (decide_eq_true c4)]
          exact wpS_pure ⟨x, eqn, rfl, x1, x2, kp2, cg2, ds2, e1, lv⟩
        · rw [if_neg (by simpa using c4)]
          have es : kk ρ (arrOf st2) (lo + x) = kk ρ (arrOf st2) (lo + x - 1) := by omega
          refine wpS_pure ⟨eqn + 1, rfl, by omega, by omega, kp2, cg2.mono (Nat.le_refl _) (by omega), fun i j i1 i2 i3 => ?_, by omega, fun i j i1 i2 i3 i4 => ?_⟩
          · by_cases hj : j < lo + x
            · exact ds2 i j i1 i2 hj
            · have hj' : j = lo + x := by omega
              subst hj'
              by_cases hi : i = lo + x
              · rw [hi]; exact Nat.le_refl _
              · have := ds2 i (lo + x - 1) i1 (by omega) (by omega)
                omega
          · have all : ∀ i, lo + (x + 1) - (eqn + 1 + 1) ≤ i → i < lo + (x + 1) → kk ρ (arrOf st2) i = kk ρ (arrOf st2) (lo + x - 1) := fun i i1 i2 => by
              by_cases hi : i = lo + x
              · rw [hi]; exact es
              · exact lv i (lo + x - 1) (by omega) (by omega) (by omega) (by omega)
            rw [all i i1 i2, all j i3 i4]
    · rintro c st2 ⟨eqn, rfl, D⟩
      exact ⟨_, eqn, rfl, by have e : max (n + 1) nrem = nrem := by omega
                             rw [e] at D ⊢
                             exact D⟩
    · rintro c st2 ⟨x, eqn, rfl, x1, x2, kp2, cg2, ds2, e1, lv⟩
      dsimp only
      have hz2 : (arrOf st2).size = (arrOf st).size := cg2.size
      refine wpS_ite (fun he => ?_) (fun he => ?_)
      · refine wpS_bind (wpS_reverse ?_)
        have hm2 := chg_mir (a := arrOf st2) (i := lo + x - (eqn + 1)) (j := lo + x) (by omega)
        have hk2' := kk_mir_same (ρ := ρ) (a := arrOf st2) (i := lo + x - (eqn + 1)) (j := lo + x) (by omega) (fun i j i1 i2 i3 i4 => lv i j i1 i2 i3 i4)
        have kp3 : Kp st (setArr st2 (mirror (arrOf st2) (lo + x - (eqn + 1)) (lo + x) ((lo + x - (lo + x - (eqn + 1))) / 2))) := ⟨kp2.kind, kp2.pend, kp2.fail⟩
        have cg3 : Chg (arrOf st) (arrOf (setArr st2 (mirror (arrOf st2) (lo + x - (eqn + 1)) (lo + x) ((lo + x - (lo + x - (eqn + 1))) / 2)))) lo (lo + x) := cg2.trans (hm2.mono (by omega) (by omega))
        have ds3 : Dsc ρ (arrOf (setArr st2 (mirror (arrOf st2) (lo + x - (eqn + 1)) (lo + x) ((lo + x - (lo + x - (eqn + 1))) / 2)))) lo (lo + x) := fun i j i1 i2 i3 => by
          show kk ρ (mirror _ _ _ _) j ≤ kk ρ (mirror _ _ _ _) i
          rw [hk2', hk2']
          exact ds2 i j i1 i2 i3
        generalize setArr st2 (mirror (arrOf st2) (lo + x - (eqn + 1)) (lo + x) ((lo + x - (lo + x - (eqn + 1))) / 2)) = st3 at kp3 cg3 ds3 ⊢
        have hz3 : (arrOf st3).size = (arrOf st).size := cg3.size
        refine wpS_bind (wpS_reverse ?_)
        have hm3 := chg_mir (a := arrOf st3) (i := lo) (j := lo + x) (by omega)
        have hk3 := kk_mir (ρ := ρ) (a := arrOf st3) (i := lo) (j := lo + x) (by omega)
        have sr4 : Srt ρ (mirror (arrOf st3) lo (lo + x) ((lo + x - lo) / 2)) lo (lo + x) := fun i j i1 i2 i3 => by
          rw [hk3, hk3, if_pos ⟨i1, by omega⟩, if_pos ⟨by omega, i3⟩]
          exact ds3 _ _ (by omega) (by omega) (by omega)
        have kp4 : Kp st (setArr st3 (mirror (arrOf st3) lo (lo + x) ((lo + x - lo) / 2))) := ⟨kp3.kind, kp3.pend, kp3.fail⟩
        have cg4 : Chg (arrOf st) (arrOf (setArr st3 (mirror (arrOf st3) lo (lo + x) ((lo + x - lo) / 2)))) lo (lo + x) := cg3.trans hm3
        have sr5 : Srt ρ (arrOf (setArr st3 (mirror (arrOf st3) lo (lo + x) ((lo + x - lo) / 2)))) lo (lo + x) := sr4
        generalize setArr st3 (mirror (arrOf st3) lo (lo + x) ((lo + x - lo) / 2)) = st4 at kp4 cg4 sr5 ⊢
        have hz4 : (arrOf st4).size = (arrOf st).size := cg4.size
        have hk4 : kindOf st4 = κ := kp4.kind.trans hk
        have hU4 := cg4.all hU
        refine wpS_bind (asc_ok (ρ := ρ) (lo := lo) (fun y m Rr m1 m2 r1 r2 => ?_) (show 1 ≤ x by omega) x2 sr5 fun m m1 m2 ms _ => wpS_pure (h m st4 (by omega) m2 kp4 (cg4.mono (Nat.le_refl _) (by omega)) ms))
        dsimp only
        refine wpS_bind (ltAt_k R hk4 hU4 (by omega) (by omega) ?_)
        dsimp only
        by_cases c : kk ρ (arrOf st4) (lo + m) < kk ρ (arrOf st4) (lo + m - 1)
        · rw [if_pos (decide_eq_true c)]
          exact wpS_pure (r1 c)
        · rw [if_neg (by simpa using c)]
          exact wpS_pure (r2 c)
      · have kp3 := kp2
        have cg3 := cg2
        have ds3 := ds2
        generalize st2 = st3 at kp3 cg3 ds3 ⊢
        have hz3 : (arrOf st3).size = (arrOf st).size := cg3.size
        refine wpS_bind (wpS_reverse ?_)
        have hm3 := chg_mir (a := arrOf st3) (i := lo) (j := lo + x) (by omega)
        have hk3 := kk_mir (ρ := ρ) (a := arrOf st3) (i := lo) (j := lo + x) (by omega)
        have sr4 : Srt ρ (mirror (arrOf st3) lo (lo + x) ((lo + x - lo) / 2)) lo (lo + x) := fun i j i1 i2 i3 => by
          rw [hk3, hk3, if_pos ⟨i1, by omega⟩, if_pos ⟨by omega, i3⟩]
          exact ds3 _ _ (by omega) (by omega) (by omega)
        have kp4 : Kp st (setArr st3 (mirror (arrOf st3) lo (lo + x) ((lo + x - lo) / 2))) := ⟨kp3.kind, kp3.pend, kp3.fail⟩
        have cg4 : Chg (arrOf st) (arrOf (setArr st3 (mirror (arrOf st3) lo (lo + x) ((lo + x - lo) / 2)))) lo (lo + x) := cg3.trans hm3
        have sr5 : Srt ρ (arrOf (setArr st3 (mirror (arrOf st3) lo (lo + x) ((lo + x - lo) / 2)))) lo (lo + x) := sr4
        generalize setArr st3 (mirror (arrOf st3) lo (lo + x) ((lo + x - lo) / 2)) = st4 at kp4 cg4 sr5 ⊢
        have hz4 : (arrOf st4).size = (arrOf st).size := cg4.size
        have hk4 : kindOf st4 = κ := kp4.kind.trans hk
        have hU4 := cg4.all hU
        refine wpS_bind (asc_ok (ρ := ρ) (lo := lo) (fun y m Rr m1 m2 r1 r2 => ?_) (show 1 ≤ x by omega) x2 sr5 fun m m1 m2 ms _ => wpS_pure (h m st4 (by omega) m2 kp4 (cg4.mono (Nat.le_refl _) (by omega)) ms))
        dsimp only
        refine wpS_bind (ltAt_k R hk4 hU4 (by omega) (by omega) ?_)
        dsimp only
        by_cases c : kk ρ (arrOf st4) (lo + m) < kk ρ (arrOf st4) (lo + m - 1)
        · rw [if_pos (decide_eq_true c)]
          exact wpS_pure (r1 c)
        · rw [if_neg (by simpa using c)]
          exact wpS_pure (r2 c)
  · have hn : n = 1 := by omega
    subst hn
    have d0 : DI ρ st lo 1 nrem (1 + 1) 0 st := by
      refine ⟨Nat.le_refl _, by omega, Kp.refl _, Chg.refl _ _ _, fun i j i1 i2 i3 => ?_, by omega, fun i j i1 i2 i3 i4 => ?_⟩
      · by_cases hij : i = j
        · rw [hij]; exact Nat.le_refl _
        · have hi : i = lo + 1 - 1 := by omega
          have hj : j = lo + 1 := by omega
          rw [hi, hj]
          omega
      · have : i = j := by omega
        rw [this]
    refine wpS_bind (wpS_lift (wpAny_rule ⟨rfl, ?_⟩))
    refine wpS_bind (wpS_mono (wpS_forRange (a := 1 + 1) (b := nrem) (I := fun x c st' => ∃ eqn, c = (none, x, eqn) ∧ DI ρ st lo 1 nrem x eqn st') (Q := fun c st' => ∃ x eqn, c = (none, x, eqn) ∧ DI ρ st lo 1 nrem x eqn st') ?_ ?_ ⟨0, rfl, d0⟩) ?_)
    · rintro x c st2 xa xb ⟨eqn, rfl, D⟩
      dsimp only
      obtain ⟨x1, x2, kp2, cg2, ds2, e1, lv⟩ := D
      have hz2 : (arrOf st2).size = (arrOf st).size := cg2.size
      have hk2 : kindOf st2 = κ := kp2.kind.trans hk
      have hU2 := cg2.all hU
      refine wpS_bind (ltAt_k R hk2 hU2 (by omega) (by omega) ?_)
      dsimp only
      by_cases c3 : kk ρ (arrOf st2) (lo + x) < kk ρ (arrOf st2) (lo + x - 1)
      · rw [if_pos (decide_eq_true c3)]
        have more : ∀ b : Array Keyed, (∀ k, kk ρ b k = kk ρ (arrOf st2) k) → Dsc ρ b lo (lo + (x + 1)) := fun b hb i j i1 i2 i3 => by
          rw [hb, hb]
          by_cases hj : j < lo + x
          · exact ds2 i j i1 i2 hj
          · have hj' : j = lo + x := by omega
            subst hj'
            by_cases hi : i = lo + x
            · rw [hi]; exact Nat.le_refl _
            · have := ds2 i (lo + x - 1) i1 (by omega) (by omega)
              omega
        refine wpS_ite (fun he => ?_) (fun he => ?_)
        · refine wpS_bind (wpS_reverse ?_)
          have hm2 := chg_mir (a := arrOf st2) (i := lo + x - (eqn + 1)) (j := lo + x) (by omega)
          have hk2' := kk_mir_same (ρ := ρ) (a := arrOf st2) (i := lo + x - (eqn + 1)) (j := lo + x) (by omega) (fun i j i1 i2 i3 i4 => lv i j i1 i2 i3 i4)
          refine wpS_pure ⟨0, rfl, by omega, by omega, ⟨kp2.kind, kp2.pend, kp2.fail⟩, (cg2.mono (Nat.le_refl _) (by omega)).trans (hm2.mono (by omega) (by omega)), more _ hk2', by omega, fun i j i1 i2 i3 i4 => ?_⟩
          have : i = j := by omega
          rw [this]
        · refine wpS_pure ⟨0, rfl, by omega, by omega, kp2, cg2.mono (Nat.le_refl _) (by omega), more _ fun _ => rfl, by omega, fun i j i1 i2 i3 i4 => ?_⟩
          have : i = j := by omega
          rw [this]
      · rw [if_neg (by simpa using c3)]
        refine wpS_bind (ltAt_k R hk2 hU2 (by omega) (by omega) ?_)
        dsimp only
        by_cases c4 : kk ρ (arrOf st2) (lo + x - 1) < kk ρ (arrOf st2) (lo + x)
        · rw [if_pos (decide_eq_true c4)]
          exact wpS_pure ⟨x, eqn, rfl, x1, x2, kp2, cg2, ds2, e1, lv⟩
        · rw [if_neg (by simpa using c4)]
          have es : kk ρ (arrOf st2) (lo + x) = kk ρ (arrOf st2) (lo + x - 1) := by omega
          refine wpS_pure ⟨eqn + 1, rfl, by omega, by omega, kp2, cg2.mono (Nat.le_refl _) (by omega), fun i j i1 i2 i3 => ?_, by omega, fun i j i1 i2 i3 i4 => ?_⟩
          · by_cases hj : j < lo + x
            · exact ds2 i j i1 i2 hj
            · have hj' : j = lo + x := by omega
              subst hj'
              by_cases hi : i = lo + x
              · rw [hi]; exact Nat.le_refl _
              · have := ds2 i (lo + x - 1) i1 (by omega) (by omega)
                omega
          · have all : ∀ i, lo + (x + 1) - (eqn + 1 + 1) ≤ i → i < lo + (x + 1) → kk ρ (arrOf st2) i = kk ρ (arrOf st2) (lo + x - 1) := fun i i1 i2 => by
              by_cases hi : i = lo + x
              · rw [hi]; exact es
              · exact lv i (lo + x - 1) (by omega) (by omega) (by omega) (by omega)
            rw [all i i1 i2, all j i3 i4]
    · rintro c st2 ⟨eqn, rfl, D⟩
      exact ⟨_, eqn, rfl, by have e : max (1 + 1) nrem = nrem := by omega
                             rw [e] at D ⊢
                             exact D⟩
    · rintro c st2 ⟨x, eqn, rfl, x1, x2, kp2, cg2, ds2, e1, lv⟩
      dsimp only
      have hz2 : (arrOf st2).size = (arrOf st).size := cg2.size
      refine wpS_ite (fun he => ?_) (fun he => ?_)
      · refine wpS_bind (wpS_reverse ?_)
        have hm2 := chg_mir (a := arrOf st2) (i := lo + x - (eqn + 1)) (j := lo + x) (by omega)
        have hk2' := kk_mir_same (ρ := ρ) (a := arrOf st2) (i := lo + x - (eqn + 1)) (j := lo + x) (by omega) (fun i j i1 i2 i3 i4 => lv i j i1 i2 i3 i4)
        have kp3 : Kp st (setArr st2 (mirror (arrOf st2) (lo + x - (eqn + 1)) (lo + x) ((lo + x - (lo + x - (eqn + 1))) / 2))) := ⟨kp2.kind, kp2.pend, kp2.fail⟩
        have cg3 : Chg (arrOf st) (arrOf (setArr st2 (mirror (arrOf st2) (lo + x - (eqn + 1)) (lo + x) ((lo + x - (lo + x - (eqn + 1))) / 2)))) lo (lo + x) := cg2.trans (hm2.mono (by omega) (by omega))
        have ds3 : Dsc ρ (arrOf (setArr st2 (mirror (arrOf st2) (lo + x - (eqn + 1)) (lo + x) ((lo + x - (lo + x - (eqn + 1))) / 2)))) lo (lo + x) := fun i j i1 i2 i3 => by
          show kk ρ (mirror _ _ _ _) j ≤ kk ρ (mirror _ _ _ _) i
          rw [hk2', hk2']
          exact ds2 i j i1 i2 i3
        generalize setArr st2 (mirror (arrOf st2) (lo + x - (eqn + 1)) (lo + x) ((lo + x - (lo + x - (eqn + 1))) / 2)) = st3 at kp3 cg3 ds3 ⊢
        have hz3 : (arrOf st3).size = (arrOf st).size := cg3.size
        refine wpS_bind (wpS_reverse ?_)
        have hm3 := chg_mir (a := arrOf st3) (i := lo) (j := lo + x) (by omega)
        have hk3 := kk_mir (ρ := ρ) (a := arrOf st3) (i := lo) (j := lo + x) (by omega)
        have sr4 : Srt ρ (mirror (arrOf st3) lo (lo + x) ((lo + x - lo) / 2)) lo (lo + x) := fun i j i1 i2 i3 => by
          rw [hk3, hk3, if_pos ⟨i1, by omega⟩, if_pos ⟨by omega, i3⟩]
          exact ds3 _ _ (by omega) (by omega) (by omega)
        have kp4 : Kp st (setArr st3 (mirror (arrOf st3) lo (lo + x) ((lo + x - lo) / 2))) := ⟨kp3.kind, kp3.pend, kp3.fail⟩
        have cg4 : Chg (arrOf st) (arrOf (setArr st3 (mirror (arrOf st3) lo (lo + x) ((lo + x - lo) / 2)))) lo (lo + x) := cg3.trans hm3
        have sr5 : Srt ρ (arrOf (setArr st3 (mirror (arrOf st3) lo (lo + x) ((lo + x - lo) / 2)))) lo (lo + x) := sr4
        generalize setArr st3 (mirror (arrOf st3) lo (lo + x) ((lo + x - lo) / 2)) = st4 at kp4 cg4 sr5 ⊢
        have hz4 : (arrOf st4).size = (arrOf st).size := cg4.size
        have hk4 : kindOf st4 = κ := kp4.kind.trans hk
        have hU4 := cg4.all hU
        refine wpS_bind (asc_ok (ρ := ρ) (lo := lo) (fun y m Rr m1 m2 r1 r2 => ?_) (show 1 ≤ x by omega) x2 sr5 fun m m1 m2 ms _ => wpS_pure (h m st4 (by omega) m2 kp4 (cg4.mono (Nat.le_refl _) (by omega)) ms))
        dsimp only
        refine wpS_bind (ltAt_k R hk4 hU4 (by omega) (by omega) ?_)
        dsimp only
        by_cases c : kk ρ (arrOf st4) (lo + m) < kk ρ (arrOf st4) (lo + m - 1)
        · rw [if_pos (decide_eq_true c)]
          exact wpS_pure (r1 c)
        · rw [if_neg (by simpa using c)]
          exact wpS_pure (r2 c)
      · have kp3 := kp2
        have cg3 := cg2
        have ds3 := ds2
        generalize st2 = st3 at kp3 cg3 ds3 ⊢
        have hz3 : (arrOf st3).size = (arrOf st).size := cg3.size
        refine wpS_bind (wpS_reverse ?_)
        have hm3 := chg_mir (a := arrOf st3) (i := lo) (j := lo + x) (by omega)
        have hk3 := kk_mir (ρ := ρ) (a := arrOf st3) (i := lo) (j := lo + x) (by omega)
        have sr4 : Srt ρ (mirror (arrOf st3) lo (lo + x) ((lo + x - lo) / 2)) lo (lo + x) := fun i j i1 i2 i3 => by
          rw [hk3, hk3, if_pos ⟨i1, by omega⟩, if_pos ⟨by omega, i3⟩]
          exact ds3 _ _ (by omega) (by omega) (by omega)
        have kp4 : Kp st (setArr st3 (mirror (arrOf st3) lo (lo + x) ((lo + x - lo) / 2))) := ⟨kp3.kind, kp3.pend, kp3.fail⟩
        have cg4 : Chg (arrOf st) (arrOf (setArr st3 (mirror (arrOf st3) lo (lo + x) ((lo + x - lo) / 2)))) lo (lo + x) := cg3.trans hm3
        have sr5 : Srt ρ (arrOf (setArr st3 (mirror (arrOf st3) lo (lo + x) ((lo + x - lo) / 2)))) lo (lo + x) := sr4
        generalize setArr st3 (mirror (arrOf st3) lo (lo + x) ((lo + x - lo) / 2)) = st4 at kp4 cg4 sr5 ⊢
        have hz4 : (arrOf st4).size = (arrOf st).size := cg4.size
        have hk4 : kindOf st4 = κ := kp4.kind.trans hk
        have hU4 := cg4.all hU
        refine wpS_bind (asc_ok (ρ := ρ) (lo := lo) (fun y m Rr m1 m2 r1 r2 => ?_) (show 1 ≤ x by omega) x2 sr5 fun m m1 m2 ms _ => wpS_pure (h m st4 (by omega) m2 kp4 (cg4.mono (Nat.le_refl _) (by omega)) ms))
        dsimp only
        refine wpS_bind (ltAt_k R hk4 hU4 (by omega) (by omega) ?_)
        dsimp only
        by_cases c : kk ρ (arrOf st4) (lo + m) < kk ρ (arrOf st4) (lo + m - 1)
        · rw [if_pos (decide_eq_true c)]
          exact wpS_pure (r1 c)
        · rw [if_neg (by simpa using c)]
          exact wpS_pure (r2 c)
end Ti

set_option maxRecDepth 100000
set_option linter.all false
namespace Ti
open PySem PyProof.Rows
theorem chg_bub {a : Array Keyed} {src d lo : Nat} (hs : src < a.size) (hd : lo + d ≤ src) : Chg a (bubble a src d) lo (src + 1) := ⟨bubble_perm _ _ _, fun k hk => by rw [getElem?_bubble hs d (by omega), if_neg (by omega), if_neg (by omega)]⟩
theorem kk_bub {ρ : Keyed → Nat} {a : Array Keyed} {src d : Nat} (hs : src < a.size) (hd : d ≤ src) (k : Nat) : kk ρ (bubble a src d) k = if k = src - d then kk ρ a src else if src - d < k ∧ k ≤ src then kk ρ a (k - 1) else kk ρ a k := by
  have e := getElem?_bubble hs d hd k
  split
  · rename_i h; rw [if_pos h] at e; exact kk_eq e
  · rename_i h
    rw [if_neg h] at e
    split
    · rename_i h2; rw [if_pos h2] at e; exact kk_eq e
    · rename_i h2; rw [if_neg h2] at e; exact kk_eq e
variable {prog : Program} {w : World} {A : Around} {E : Value → Shared → Prop} {s : Shared} {κ : SortKind} {U : Keyed → Prop} {ρ : Keyed → Nat}
theorem wpS_binarySort (R : Rk prog w A E s κ U ρ) {st : SortSt} {lo n ok : Nat} {Q : Bool → SortSt → Prop} (hk : kindOf st = κ) (hU : ∀ p ∈ (arrOf st).toList, U p) (hsz : lo + n ≤ (arrOf st).size) (ho : 1 ≤ ok) (hon : ok ≤ n) (hs : Srt ρ (arrOf st) lo (lo + ok))
    (h : ∀ st', Kp st st' → Chg (arrOf st) (arrOf st') lo (lo + n) → Srt ρ (arrOf st') lo (lo + n) → Q true st') : wpS (model prog w) A E s (binarySort' lo n ok) Q st := by
  have em : max ok 1 = ok := by omega
  refine wpS_bind (wpS_mono (wpS_forRange (a := max ok 1) (b := n) (I := fun k c st' => c = (none, ()) ∧ Kp st st' ∧ Chg (arrOf st) (arrOf st') lo (lo + n) ∧ Srt ρ (arrOf st') lo (lo + k)) (Q := fun c st' => c = (none, ()) ∧ Kp st st' ∧ Chg (arrOf st) (arrOf st') lo (lo + n) ∧ Srt ρ (arrOf st') lo (lo + n)) ?_ ?_ ⟨rfl, Kp.refl _, Chg.refl _ _ _, by rw [em]; exact hs⟩) ?_)
  · rintro k c st1 k1 k2 ⟨rfl, kp, cg, sr⟩
    have hz : (arrOf st1).size = (arrOf st).size := cg.size
    have hk1 : kindOf st1 = κ := kp.kind.trans hk
    have hU1 := cg.all hU
    refine wpS_bind (wpS_mono (wpS_forRange (a := 0) (b := k) (I := fun x c st' => st' = st1 ∧ ∃ l r, c = (none, l, r) ∧ l ≤ r ∧ r ≤ k ∧ r - l + x ≤ k ∧ (∀ i, i < l → kk ρ (arrOf st1) (lo + i) ≤ kk ρ (arrOf st1) (lo + k)) ∧ (∀ i, r ≤ i → i < k → kk ρ (arrOf st1) (lo + k) < kk ρ (arrOf st1) (lo + i)))
      (Q := fun c st' => st' = st1 ∧ ∃ l, c = (none, l, l) ∧ l ≤ k ∧ (∀ i, i < l → kk ρ (arrOf st1) (lo + i) ≤ kk ρ (arrOf st1) (lo + k)) ∧ (∀ i, l ≤ i → i < k → kk ρ (arrOf st1) (lo + k) < kk ρ (arrOf st1) (lo + i))) ?_ ?_ ⟨rfl, 0, k, rfl, Nat.zero_le _, Nat.le_refl _, by omega, fun i hi => by omega, fun i i1 i2 => by omega⟩) ?_)
    · rintro x c st2 _ hx ⟨rfl, l, r, rfl, a1, a2, a3, a4, a5⟩
      dsimp only
      by_cases hlr : l ≥ r
      · rw [if_pos hlr]
        have : l = r := by omega
        subst this
        exact wpS_pure ⟨rfl, l, rfl, a2, a4, a5⟩
      rw [if_neg hlr]
      refine wpS_bind (ltAt_k R hk1 hU1 (by omega) (by omega) ?_)
      dsimp only
      by_cases c1 : kk ρ (arrOf st2) (lo + k) < kk ρ (arrOf st2) (lo + (l + r) / 2)
      · rw [if_pos (decide_eq_true c1)]
        refine wpS_pure ⟨rfl, l, (l + r) / 2, rfl, by omega, by omega, by omega, a4, fun i i1 i2 => ?_⟩
        have := sr (lo + (l + r) / 2) (lo + i) (by omega) (by omega) (by omega)
        omega
      · rw [if_neg (by simpa using c1)]
        refine wpS_pure ⟨rfl, (l + r) / 2 + 1, r, rfl, by omega, by omega, by omega, fun i i1 => ?_, a5⟩
        have := sr (lo + i) (lo + (l + r) / 2) (by omega) (by omega) (by omega)
        omega
    · rintro c st2 ⟨rfl, l, r, rfl, a1, a2, a3, a4, a5⟩
      have : l = r := by omega
      subst this
      exact ⟨rfl, l, rfl, a2, a4, a5⟩
    · rintro c st2 ⟨rfl, l, rfl, a1, a2, a3⟩
      dsimp only
      have hsrc : lo + k < (arrOf st2).size := by omega
      have cb := chg_bub (a := arrOf st2) (src := lo + k) (d := lo + k - (lo + l)) (lo := lo) hsrc (by omega)
      have kb := kk_bub (ρ := ρ) (a := arrOf st2) (src := lo + k) (d := lo + k - (lo + l)) hsrc (by omega)
      refine wpS_bind (wpS_modify (wpS_pure ⟨rfl, ⟨kp.kind, kp.pend, kp.fail⟩, cg.trans (cb.mono (Nat.le_refl _) (by omega)), fun i j i1 i2 i3 => ?_⟩))
      show kk ρ (bubble (arrOf st2) (lo + k) (lo + k - (lo + l))) i ≤ kk ρ (bubble (arrOf st2) (lo + k) (lo + k - (lo + l))) j
      have e0 : lo + k - (lo + k - (lo + l)) = lo + l := by omega
      rw [kb, kb, e0]
      by_cases ci : i = lo + l
      · rw [if_pos ci]
        by_cases cj : j = lo + l
        · rw [if_pos cj]; exact Nat.le_refl _
        · rw [if_neg cj, if_pos ⟨by omega, by omega⟩]
          have := a3 (j - 1 - lo) (by omega) (by omega)
          rw [show lo + (j - 1 - lo) = j - 1 by omega] at this
          omega
      · rw [if_neg ci]
        by_cases di : lo + l < i ∧ i ≤ lo + k
        · rw [if_pos di, if_neg (show ¬ j = lo + l by omega), if_pos ⟨by omega, by omega⟩]
          exact sr _ _ (by omega) (by omega) (by omega)
        · rw [if_neg di]
          have hil : i < lo + l := by omega
          have hik := a2 (i - lo) (by omega)
          rw [show lo + (i - lo) = i by omega] at hik
          by_cases cj : j = lo + l
          · rw [if_pos cj]; exact hik
          · rw [if_neg cj]
            by_cases dj : lo + l < j ∧ j ≤ lo + k
            · rw [if_pos dj]
              exact sr _ _ i1 (by omega) (by omega)
            · rw [if_neg dj]
              exact sr _ _ i1 i2 (by omega)
  · rintro c st1 ⟨rfl, kp, cg, sr⟩
    rw [show max (max ok 1) n = n by omega] at sr
    exact ⟨rfl, kp, cg, sr⟩
  · rintro c st1 ⟨rfl, kp, cg, sr⟩
    exact wpS_pure (h st1 kp cg sr)
end Ti

set_option maxRecDepth 100000
set_option linter.all false
namespace Ti
open PySem PyProof.Rows
/-! ### all runs -/
abbrev Run := Nat × Nat × Nat
def Runs : List Run → Nat → Nat → Prop
  | [], lo, hi => lo = hi
  | r :: rs, lo, hi => r.1 = lo ∧ 0 < r.2.1 ∧ Runs rs (lo + r.2.1) hi
theorem Runs.le : ∀ {P : List Run} {lo hi : Nat}, Runs P lo hi → lo ≤ hi
  | [], _, _, h => Nat.le_of_eq h
  | r :: rs, lo, hi, ⟨_, _, h⟩ => by have := Runs.le h; omega
theorem Runs.len : ∀ {P : List Run} {lo hi : Nat}, Runs P lo hi → P.length + lo ≤ hi
  | [], _, _, h => by have : _ = _ := h; simp; omega
  | r :: rs, lo, hi, ⟨_, h0, h⟩ => by have := Runs.len h; simp only [List.length_cons]; omega
theorem Runs.mem : ∀ {P : List Run} {lo hi : Nat}, Runs P lo hi → ∀ r ∈ P, lo ≤ r.1 ∧ 0 < r.2.1 ∧ r.1 + r.2.1 ≤ hi
  | [], _, _, _, r, hr => by simp at hr
  | q :: rs, lo, hi, ⟨h1, h0, h⟩, r, hr => by
    rcases List.mem_cons.mp hr with rfl | hr
    · have := Runs.le h
      omega
    · have := Runs.mem h r hr
      omega
theorem Runs.push : ∀ {P : List Run} {lo hi n p : Nat}, Runs P lo hi → 0 < n → Runs (P ++ [(hi, n, p)]) lo (hi + n)
  | [], _, _, n, p, h, hn => by cases h; exact ⟨rfl, hn, rfl⟩
  | r :: rs, lo, hi, n, p, ⟨h1, h0, h⟩, hn => ⟨h1, h0, Runs.push h hn⟩
theorem Runs.merge : ∀ (P : List Run) (i lo hi s n p s' n' p' : Nat), Runs P lo hi → P[i]? = some (s, n, p) → P[i + 1]? = some (s', n', p') →
    s' = s + n ∧ 0 < n ∧ 0 < n' ∧ lo ≤ s ∧ s + n + n' ≤ hi ∧ Runs ((P.set i (s, n + n', p)).eraseIdx (i + 1)) lo hi ∧ ∀ r ∈ (P.set i (s, n + n', p)).eraseIdx (i + 1), r = (s, n + n', p) ∨ (r ∈ P ∧ (r.1 + r.2.1 ≤ s ∨ s + n + n' ≤ r.1))
  | [], i, _, _, _, _, _, _, _, _, _, e, _ => by simp at e
  | [a], 0, _, _, _, _, _, _, _, _, _, _, e => by simp at e
  | a :: b :: rs, 0, lo, hi, s, n, p, s', n', p', ⟨h1, h2, h3, h4, h5⟩, e1, e2 => by
    simp at e1 e2
    subst e1 e2
    have hl := Runs.le h5
    dsimp only at h1 h2 h3 h4 h5 hl ⊢
    subst h1
    refine ⟨h3, h2, h4, Nat.le_refl _, by omega, ⟨rfl, by show 0 < n + n'; omega, by show Runs rs (s + (n + n')) hi; rw [← Nat.add_assoc]; exact h5⟩, fun r hr => ?_⟩
    simp only [List.set_cons_zero, List.eraseIdx_cons_succ, List.eraseIdx_cons_zero, List.mem_cons] at hr
    rcases hr with rfl | hr
    · exact .inl rfl
    · exact .inr ⟨.tail _ (.tail _ hr), .inr (Runs.mem h5 r hr).1⟩
  | a :: rs, i + 1, lo, hi, s, n, p, s', n', p', ⟨h1, h2, h3⟩, e1, e2 => by
    simp at e1 e2
    obtain ⟨a1, a2, a3, a4, a5, a6, a7⟩ := Runs.merge rs i (lo + a.2.1) hi s n p s' n' p' h3 e1 e2
    refine ⟨a1, a2, a3, by omega, a5, ⟨h1, h2, a6⟩, fun r hr => ?_⟩
    simp only [List.set_cons_succ, List.eraseIdx_cons_succ, List.mem_cons] at hr
    rcases hr with rfl | hr
    · exact .inr ⟨.head _, .inl (by omega)⟩
    · rcases a7 r hr with e | ⟨e, f⟩
      · exact .inl e
      · exact .inr ⟨.tail _ e, f⟩
section
variable {ρ : Keyed → Nat} {a b : Array Keyed}
theorem srt_ris {lo hi : Nat} (h : Srt ρ a lo hi) (hz : hi ≤ a.size) : Ris ρ (seg a.toList lo hi) := by
  refine List.pairwise_iff_getElem.mpr fun i j hi' hj hij => ?_
  rw [seg_len (by simpa using hz)] at hi' hj
  have g : ∀ k (hk : k < (seg a.toList lo hi).length), ρ (seg a.toList lo hi)[k] = kk ρ a (lo + k) := fun k hk => by
    rw [seg_len (by simpa using hz)] at hk
    have hl : lo + k < a.size := by omega
    have e := seg_get (l := a.toList) (lo := lo) (hi := hi) (j := lo + k) (by omega) (by omega) (by rw [Array.getElem?_toList]; exact getElem?_pos a (lo + k) hl)
    rw [show lo + k - lo = k by omega] at e
    obtain ⟨_, e'⟩ := List.getElem?_eq_some_iff.mp e
    rw [e', kk_of (getElem?_pos a (lo + k) hl)]
  rw [g, g]
  exact h _ _ (by omega) (by omega) (by omega)
theorem ris_srt {lo hi : Nat} (h : Ris ρ (seg a.toList lo hi)) (hz : hi ≤ a.size) : Srt ρ a lo hi := fun i j i1 i2 i3 => by
  have e1 := getElem?_pos a i (by omega)
  have e2 := getElem?_pos a j (by omega)
  rw [kk_of e1, kk_of e2]
  exact seg_le h i1 i2 i3 (by rw [Array.getElem?_toList]; exact e1) (by rw [Array.getElem?_toList]; exact e2)
theorem Srt.chg {lo hi l h : Nat} (hs : Srt ρ a l h) (c : Chg a b lo hi) (ho : h ≤ lo ∨ hi ≤ l) : Srt ρ b l h := fun i j i1 i2 i3 => by
  rw [kk_eq (c.out i (by omega)), kk_eq (c.out j (by omega))]
  exact hs i j i1 i2 i3
/-- what a merge leaves -/
theorem chg_of {lo hi : Nat} {Z : List Keyed} (hlo : lo ≤ hi) (hz : hi ≤ a.size) (e : b.toList = a.toList.take lo ++ Z ++ a.toList.drop hi) (pm : Z.Perm (seg a.toList lo hi)) (so : Ris ρ Z) : Chg a b lo hi ∧ Srt ρ b lo hi := by
  have zl : Z.length = hi - lo := by rw [pm.length_eq, seg_len (by simpa using hz)]
  have tl : (a.toList.take lo).length = lo := by rw [List.length_take, Array.length_toList]; omega
  have p : b.Perm a := by
    rw [Array.perm_iff_toList_perm, e]
    have ea : a.toList = a.toList.take lo ++ seg a.toList lo hi ++ a.toList.drop hi := by rw [← take_seg hlo, List.take_append_drop]
    conv => rhs; rw [ea]
    exact (pm.append_left _).append_right _
  have bz : b.size = a.size := p.size_eq
  refine ⟨⟨p, fun k hk => ?_⟩, ris_srt ?_ (by omega)⟩
  · rw [← Array.getElem?_toList, ← Array.getElem?_toList, e]
    rcases hk with hk | hk
    · rw [List.append_assoc, List.getElem?_append_left (by omega), List.getElem?_take_of_lt hk]
    · rw [List.getElem?_append_right (by rw [List.length_append]; omega), List.getElem?_drop, List.length_append, tl, zl]
      congr 1
      omega
  · have : seg b.toList lo hi = Z := by
      unfold seg
      rw [e, List.take_append_of_le_length (by rw [List.length_append]; omega), List.take_of_length_le (by rw [List.length_append]; omega), List.drop_append_of_le_length (by omega), List.drop_of_length_le (by omega)]
      rfl
    rw [this]
    exact so
end
structure Good (ρ : Keyed → Nat) (κ : SortKind) (a₀ : Array Keyed) (st : SortSt) (hi : Nat) : Prop where
  kind : kindOf st = κ
  fail : failedOf st = none
  pm : (arrOf st).Perm a₀
  runs : Runs (pendingOf st).toList 0 hi
  srt : ∀ r ∈ (pendingOf st).toList, Srt ρ (arrOf st) r.1 (r.1 + r.2.1)
variable {prog : Program} {w : World} {A : Around} {E : Value → Shared → Prop} {s : Shared} {κ : SortKind} {U : Keyed → Prop} {ρ : Keyed → Nat} {a₀ : Array Keyed}
theorem Good.size {st : SortSt} {hi : Nat} (G : Good ρ κ a₀ st hi) : (arrOf st).size = a₀.size := G.pm.size_eq
theorem Good.all {st : SortSt} {hi : Nat} (G : Good ρ κ a₀ st hi) (hU : ∀ p ∈ a₀.toList, U p) : ∀ p ∈ (arrOf st).toList, U p := fun p hp => hU p ((Array.perm_iff_toList_perm.mp G.pm).mem_iff.mp hp)
/-- one merge -/
theorem Good.merge (R : Rk prog w A E s κ U ρ) (hU : ∀ p ∈ a₀.toList, U p) {st : SortSt} {hi i : Nat} {Q : Bool → SortSt → Prop} (G : Good ρ κ a₀ st hi) (hz : hi ≤ a₀.size) (h1 : i + 1 < (pendingOf st).size)
    (h : ∀ st', Good ρ κ a₀ st' hi → (pendingOf st').size + 1 = (pendingOf st).size → Chg (arrOf st) (arrOf st') 0 hi → Q true st') : wpS (model prog w) A E s (mergeAt' i) Q st := by
  obtain ⟨⟨sa, na, pw⟩, e1⟩ : ∃ r, (pendingOf st)[i]? = some r := ⟨_, getElem?_pos (pendingOf st) i (by omega)⟩
  obtain ⟨⟨sb, nb, pw'⟩, e2⟩ : ∃ r, (pendingOf st)[i + 1]? = some r := ⟨_, getElem?_pos (pendingOf st) (i + 1) h1⟩
  obtain ⟨m1, m2, m3, m4, m5, m6, m7⟩ := Runs.merge _ i 0 hi sa na pw sb nb pw' G.runs (by rw [Array.getElem?_toList]; exact e1) (by rw [Array.getElem?_toList]; exact e2)
  subst m1
  have s1 := G.srt (sa, na, pw) (List.mem_of_getElem? (by rw [Array.getElem?_toList]; exact e1))
  have s2 := G.srt (sa + na, nb, pw') (List.mem_of_getElem? (by rw [Array.getElem?_toList]; exact e2))
  have hgs := G.size
  refine wpS_mergeAt R G.kind (G.all hU) G.fail e1 e2 m2 m3 (by omega) (srt_ris s1 (by show sa + na ≤ _; omega)) (srt_ris s2 (by show sa + na + nb ≤ _; omega)) fun st' k1 f1 p1 Z z1 z2 z3 => ?_
  obtain ⟨c1, c2⟩ := chg_of (ρ := ρ) (show sa ≤ sa + na + nb by omega) (by omega) z1 z2 z3
  have el : (pendingOf st').toList = ((pendingOf st).toList.set i (sa, na + nb, pw)).eraseIdx (i + 1) := by rw [p1]; simp
  refine h st' ⟨k1, f1, c1.pm.trans G.pm, by rw [el]; exact m6, fun r hr => ?_⟩ ?_ (c1.mono (Nat.zero_le _) m5)
  · rw [el] at hr
    rcases m7 r hr with rfl | ⟨hr, ho⟩
    · show Srt ρ (arrOf st') sa (sa + (na + nb))
      rw [← Nat.add_assoc]
      exact c2
    · exact (G.srt r hr).chg c1 ho
  · have := congrArg List.length el
    rw [List.length_eraseIdx_of_lt (by simpa using h1), List.length_set, Array.length_toList, Array.length_toList] at this
    omega
end Ti

set_option maxRecDepth 100000
set_option linter.all false
namespace Ti
open PySem PyProof.Rows
variable {prog : Program} {w : World} {A : Around} {E : Value → Shared → Prop} {s : Shared} {κ : SortKind} {U : Keyed → Prop} {ρ : Keyed → Nat} {a₀ : Array Keyed}
/-- all but the run that was just found -/
theorem Good.keep {st st' : SortSt} {lo hi : Nat} (G : Good ρ κ a₀ st lo) (kp : Kp st st') (cg : Chg (arrOf st) (arrOf st') lo hi) : Good ρ κ a₀ st' lo := by
  refine ⟨kp.kind.trans G.kind, kp.fail.trans G.fail, cg.pm.trans G.pm, by rw [kp.pend]; exact G.runs, fun r hr => ?_⟩
  rw [kp.pend] at hr
  exact (G.srt r hr).chg cg (.inl (G.runs.mem r hr).2.2)
theorem Runs.last : ∀ {P : List Run} {lo hi pw : Nat}, Runs P lo hi → Runs (P.modify (P.length - 1) fun x => (x.1, x.2.1, pw)) lo hi
  | [], _, _, _, h => h
  | [r], _, _, _, h => h
  | r :: q :: rs, lo, hi, pw, ⟨h1, h2, h3⟩ => by
    have := Runs.last (pw := pw) h3
    exact ⟨h1, h2, this⟩
theorem mem_last : ∀ {P : List Run} {pw : Nat}, ∀ r ∈ P.modify (P.length - 1) (fun x => (x.1, x.2.1, pw)), ∃ q ∈ P, q.1 = r.1 ∧ q.2.1 = r.2.1
  | [], _, r, hr => by simp at hr
  | [q], _, r, hr => by simp at hr; subst hr; exact ⟨q, .head _, rfl, rfl⟩
  | q :: q' :: rs, pw, r, hr => by
    have hr : r ∈ q :: (q' :: rs).modify ((q' :: rs).length - 1) (fun x => (x.1, x.2.1, pw)) := hr
    rcases List.mem_cons.mp hr with rfl | hr
    · exact ⟨_, .head _, rfl, rfl⟩
    · obtain ⟨p, hp, e⟩ := mem_last r hr
      exact ⟨p, .tail _ hp, e⟩
theorem le_ite {c : Prop} [Decidable c] {a : Nat} : (if c then a - 1 else a) ≤ a := by split <;> omega
theorem wpS_runs (R : Rk prog w A E s κ U ρ) (hU : ∀ p ∈ a₀.toList, U p) {st : SortSt} {Q : Unit → SortSt → Prop} (ha : arrOf st = a₀) (hk : kindOf st = κ) (hf : failedOf st = none) (hp : pendingOf st = #[]) (h1 : 1 ≤ a₀.size)
    (h : ∀ st', (arrOf st').Perm a₀ → failedOf st' = none → Srt ρ (arrOf st') 0 a₀.size → Q () st') : wpS (model prog w) A E s sortRuns' Q st := by
  have G0 : Good ρ κ a₀ st 0 := ⟨hk, hf, by rw [ha], by rw [hp]; exact rfl, fun r hr => by rw [hp] at hr; simp at hr⟩
  refine wpS_bind (wpS_get ?_)
  have hsz : (arrOf st).size = a₀.size := by rw [ha]
  unfold arrOf at hsz
  rw [hsz]
  dsimp only
  refine wpS_bind (for_n (I := fun x c st' => ∃ lo, c = (none, lo) ∧ x ≤ lo ∧ lo ≤ a₀.size ∧ Good ρ κ a₀ st' lo) (Q := fun c st' => c = (none, a₀.size) ∧ Good ρ κ a₀ st' a₀.size) ?_ ?_ ⟨0, rfl, Nat.zero_le _, Nat.zero_le _, G0⟩ ?_)
  · rintro x c st1 hx ⟨lo, rfl, x1, x2, G⟩
    dsimp only
    by_cases c1 : lo ≥ a₀.size
    · rw [if_pos c1]
      have : lo = a₀.size := by omega
      subst this
      exact wpS_pure ⟨rfl, G⟩
    rw [if_neg c1]
    have hs1 := G.size
    refine wpS_bind (wpS_countRun R G.kind (G.all hU) (by omega) (by omega) fun n st2 n1 n2 kp cg sr => ?_)
    dsimp only
    have pushed : ∀ (st' : SortSt) (n' : Nat), Good ρ κ a₀ st' lo → 1 ≤ n' → Srt ρ (arrOf st') lo (lo + n') → Good ρ κ a₀ (SortSt.mk' (kindOf st') (arrOf st') ((pendingOf st').push (lo, n', 0)) (gallopOf st') (failedOf st')) (lo + n') := fun st' n' g hn sr => by
      have el : ((pendingOf st').push (lo, n', 0)).toList = (pendingOf st').toList ++ [(lo, n', 0)] := Array.toList_push
      refine ⟨g.kind, g.fail, g.pm, ?_, fun r hr => ?_⟩
      · show Runs ((pendingOf st').push (lo, n', 0)).toList 0 (lo + n')
        rw [el]
        exact g.runs.push hn
      · have hr : r ∈ ((pendingOf st').push (lo, n', 0)).toList := hr
        rw [el] at hr
        rcases List.mem_append.mp hr with hr | hr
        · exact g.srt r hr
        · rw [List.mem_singleton] at hr
          subst hr
          exact sr
    have lasted : ∀ (st' : SortSt) (pw : Nat), Good ρ κ a₀ st' lo → Good ρ κ a₀ (SortSt.mk' (kindOf st') (arrOf st') ((pendingOf st').modify ((pendingOf st').size - 1) fun x => (x.1, x.2.1, pw)) (gallopOf st') (failedOf st')) lo := fun st' pw g => by
      have el : ((pendingOf st').modify ((pendingOf st').size - 1) fun x => (x.1, x.2.1, pw)).toList = (pendingOf st').toList.modify ((pendingOf st').toList.length - 1) fun x => (x.1, x.2.1, pw) := by simp
      refine ⟨g.kind, g.fail, g.pm, ?_, fun r hr => ?_⟩
      · show Runs ((pendingOf st').modify ((pendingOf st').size - 1) fun x => (x.1, x.2.1, pw)).toList 0 lo
        rw [el]
        exact g.runs.last
      · have hr : r ∈ ((pendingOf st').modify ((pendingOf st').size - 1) fun x => (x.1, x.2.1, pw)).toList := hr
        rw [el] at hr
        obtain ⟨q, hq, e1, e2⟩ := mem_last r hr
        have := g.srt q hq
        rw [e1, e2] at this
        exact this
    have G2 : Good ρ κ a₀ st2 lo := G.keep kp cg
    have hs2 := G2.size
    refine wpS_ite (fun c2 => ?_) (fun c2 => ?_)
    · refine wpS_bind (wpS_lift (wpAny_rule ⟨rfl, ?_⟩))
      refine wpS_bind (wpS_binarySort R G2.kind (G2.all hU) (n := min (a₀.size - lo) (minRun' a₀.size a₀.size 0)) (by omega) n1 (Nat.le_min.mpr ⟨n2, Nat.le_of_lt c2⟩) sr fun st3 kp3 cg3 sr3 => ?_)
      have G3 : Good ρ κ a₀ st3 lo := G2.keep kp3 cg3
      have m1 : 1 ≤ min (a₀.size - lo) (minRun' a₀.size a₀.size 0) := Nat.le_trans n1 (Nat.le_min.mpr ⟨n2, Nat.le_of_lt c2⟩)
      have m2 : min (a₀.size - lo) (minRun' a₀.size a₀.size 0) ≤ a₀.size - lo := Nat.min_le_left _ _
      rw [if_neg (by simp)]
      refine wpS_bind (wpS_get ?_)
      cases hb : (pendingOf st3).back? with
      | none =>
        exact wpS_bind (wpS_modify (wpS_pure ⟨lo + (min (a₀.size - lo) (minRun' a₀.size a₀.size 0)), rfl, by omega, by omega, pushed st3 (min (a₀.size - lo) (minRun' a₀.size a₀.size 0)) G3 m1 sr3⟩))
      | some r =>
        obtain ⟨s1, n1', p1⟩ := r
        dsimp only
        refine wpS_bind (for_n (I := fun _ c st' => c = (none, ()) ∧ Good ρ κ a₀ st' lo ∧ Srt ρ (arrOf st') lo (lo + (min (a₀.size - lo) (minRun' a₀.size a₀.size 0)))) (Q := fun c st' => c = (none, ()) ∧ Good ρ κ a₀ st' lo ∧ Srt ρ (arrOf st') lo (lo + (min (a₀.size - lo) (minRun' a₀.size a₀.size 0)))) ?_ (fun _ _ z => z) ⟨rfl, G3, sr3⟩ ?_)
        · rintro y c st4 hy ⟨rfl, G4, sr4⟩
          refine wpS_bind (wpS_get ?_)
          by_cases c3 : (pendingOf st4).size > 1
          · obtain ⟨⟨s2, n2', older⟩, e2⟩ : ∃ r, (pendingOf st4)[(pendingOf st4).size - 2]? = some r := ⟨_, getElem?_pos (pendingOf st4) _ (by omega)⟩
            have ei : (if (pendingOf st4).size > 1 then (pendingOf st4)[(pendingOf st4).size - 2]? else none) = some (s2, n2', older) := by rw [if_pos c3, e2]
            unfold pendingOf at ei
            rw [ei]
            dsimp only
            refine wpS_ite (fun _ => wpS_pure ⟨rfl, G4, sr4⟩) (fun _ => ?_)
            refine wpS_bind (G4.merge R hU x2 (i := (pendingOf st4).size - 2) (by omega) fun st5 g1 g2 g3 => ?_)
            exact wpS_pure ⟨rfl, g1, sr4.chg g3 (.inr (Nat.le_refl _))⟩
          · have ei : (if (pendingOf st4).size > 1 then (pendingOf st4)[(pendingOf st4).size - 2]? else none) = none := by rw [if_neg c3]
            unfold pendingOf at ei
            rw [ei]
            exact wpS_pure ⟨rfl, G4, sr4⟩
        · rintro c st4 ⟨rfl, G4, sr4⟩
          dsimp only
          exact wpS_bind (wpS_modify (wpS_bind (wpS_modify (wpS_pure ⟨lo + (min (a₀.size - lo) (minRun' a₀.size a₀.size 0)), rfl, by omega, by omega, pushed _ (min (a₀.size - lo) (minRun' a₀.size a₀.size 0)) (lasted st4 _ G4) m1 sr4⟩))))
    · have G3 := G2
      have sr3 := sr
      have m1 := n1
      have m2 := n2
      generalize n = n' at m1 m2 sr3 ⊢
      generalize st2 = st3 at G3 sr3 ⊢
      refine wpS_bind (wpS_get ?_)
      cases hb : (pendingOf st3).back? with
      | none =>
        exact wpS_bind (wpS_modify (wpS_pure ⟨lo + n', rfl, by omega, by omega, pushed st3 n' G3 m1 sr3⟩))
      | some r =>
        obtain ⟨s1, n1', p1⟩ := r
        dsimp only
        refine wpS_bind (for_n (I := fun _ c st' => c = (none, ()) ∧ Good ρ κ a₀ st' lo ∧ Srt ρ (arrOf st') lo (lo + n')) (Q := fun c st' => c = (none, ()) ∧ Good ρ κ a₀ st' lo ∧ Srt ρ (arrOf st') lo (lo + n')) ?_ (fun _ _ z => z) ⟨rfl, G3, sr3⟩ ?_)
        · rintro y c st4 hy ⟨rfl, G4, sr4⟩
          refine wpS_bind (wpS_get ?_)
          by_cases c3 : (pendingOf st4).size > 1
          · obtain ⟨⟨s2, n2', older⟩, e2⟩ : ∃ r, (pendingOf st4)[(pendingOf st4).size - 2]? = some r := ⟨_, getElem?_pos (pendingOf st4) _ (by omega)⟩
            have ei : (if (pendingOf st4).size > 1 then (pendingOf st4)[(pendingOf st4).size - 2]? else none) = some (s2, n2', older) := by rw [if_pos c3, e2]
            unfold pendingOf at ei
            rw [ei]
            dsimp only
            refine wpS_ite (fun _ => wpS_pure ⟨rfl, G4, sr4⟩) (fun _ => ?_)
            refine wpS_bind (G4.merge R hU x2 (i := (pendingOf st4).size - 2) (by omega) fun st5 g1 g2 g3 => ?_)
            exact wpS_pure ⟨rfl, g1, sr4.chg g3 (.inr (Nat.le_refl _))⟩
          · have ei : (if (pendingOf st4).size > 1 then (pendingOf st4)[(pendingOf st4).size - 2]? else none) = none := by rw [if_neg c3]
            unfold pendingOf at ei
            rw [ei]
            exact wpS_pure ⟨rfl, G4, sr4⟩
        · rintro c st4 ⟨rfl, G4, sr4⟩
          dsimp only
          exact wpS_bind (wpS_modify (wpS_bind (wpS_modify (wpS_pure ⟨lo + n', rfl, by omega, by omega, pushed _ n' (lasted st4 _ G4) m1 sr4⟩))))
  · rintro c st1 ⟨lo, rfl, x1, x2, G⟩
    have : lo = a₀.size := by omega
    subst this
    exact ⟨rfl, G⟩
  · rintro c st1 ⟨rfl, G⟩
    dsimp only
    have hl0 := G.runs.len
    rw [Array.length_toList] at hl0
    refine wpS_bind (for_n (I := fun x c st' => c = (none, ()) ∧ Good ρ κ a₀ st' a₀.size ∧ ((pendingOf st').size ≤ 1 ∨ (pendingOf st').size + x ≤ a₀.size)) (Q := fun c st' => c = (none, ()) ∧ Good ρ κ a₀ st' a₀.size ∧ (pendingOf st').size ≤ 1) ?_ ?_ ⟨rfl, G, .inr (by omega)⟩ ?_)
    · rintro x c st2 hx ⟨rfl, G2, hp2⟩
      refine wpS_bind (wpS_get ?_)
      by_cases c1 : (pendingOf st2).size ≤ 1
      · rw [if_pos c1]
        exact wpS_pure ⟨rfl, G2, c1⟩
      rw [if_neg c1]
      have go : ∀ i, i ≤ (pendingOf st2).size - 2 → wpS (model prog w) A E s (mergeAt' i) (fun a st' => a = true ∧ Good ρ κ a₀ st' a₀.size ∧ ((pendingOf st').size ≤ 1 ∨ (pendingOf st').size + (x + 1) ≤ a₀.size)) st2 := fun i hi =>
        G2.merge R hU (Nat.le_refl _) (by omega) fun st' g1 g2 _ => ⟨rfl, g1, .inr (by omega)⟩
      refine wpS_bind (wpS_mono (go _ ?_) fun b st3 => ?_)
      · exact le_ite
      · rintro ⟨rfl, g1, g2⟩
        exact wpS_pure ⟨rfl, g1, g2⟩
    · rintro c st2 ⟨rfl, G2, hp2⟩
      exact ⟨rfl, G2, by omega⟩
    · rintro c st2 ⟨rfl, G2, hp2⟩
      refine wpS_pure (h st2 G2.pm G2.fail ?_)
      have hr := G2.runs
      have hs := G2.srt
      have hl : (pendingOf st2).toList.length ≤ 1 := by simpa using hp2
      match e : (pendingOf st2).toList, hl with
      | [], _ => rw [e] at hr; have : 0 = a₀.size := hr; omega
      | [r], _ =>
        rw [e] at hr hs
        obtain ⟨r1, r2, r3⟩ := hr
        have r3 : 0 + r.2.1 = a₀.size := r3
        have := hs r (.head _)
        rw [r1, r3] at this
        exact this
end Ti

set_option Elab.async false
set_option linter.all false
set_option maxRecDepth 100000
set_option maxHeartbeats 4000000
namespace So
open PySem PySem.W PyProof.Rows

variable {lt : Nat → Nat → Bool}
namespace Ord
end Ord

/-! ### all questions are of places below n -/
end So

set_option Elab.async false
set_option linter.all false
set_option maxRecDepth 100000
set_option maxHeartbeats 4000000
namespace L2
open PySem PySem.Spec PyProof.Rows

/-! ### pairs of texts, as Python compares them -/
abbrev bltS (x y : Str) : Bool := PyProof.Rows.strKind.blt x.cps.toList y.cps.toList
theorem str_ext {x y : Str} (h : x.cps.toList = y.cps.toList) : x = y := by
  obtain ⟨a⟩ := x
  obtain ⟨b⟩ := y
  congr 1
  exact Array.toList_inj.mp h
theorem bltS_irr (x : Str) : bltS x x = false := PyProof.Rows.strKind.irrefl _
theorem bltS_tr {x y z : Str} (h1 : bltS x y = true) (h2 : bltS y z = true) : bltS x z = true := PyProof.Rows.strKind.trans _ _ _ h1 h2
theorem bltS_nt {x y z : Str} (h : bltS x z = true) : bltS x y = true ∨ bltS y z = true := PyProof.Rows.strKind.negTrans _ _ _ h
theorem bltS_tot {x y : Str} (h1 : bltS x y = false) (h2 : bltS y x = false) : x = y := str_ext (PyProof.Rows.strKind.total _ _ h1 h2)
/-! ### the sort's own comparison of two tuples of two texts -/
section
variable {prog : Program} {w : World} {A : Around} {E : Value → Shared → Prop} {s : Shared}
end

/-! ### behind a rule of the ledger: all is kept but the new list -/
section
variable {X : Cx} {pins : List (Addr × Obj)} {σ : St} {H : Hp} {s : Shared}
end

/-! ### sorted of a list of pairs of texts -/
section
variable {X : Cx} {pins : List (Addr × Obj)} {σ : St} {H : Hp} {s : Shared}
end
end L2

set_option Elab.async false
set_option linter.all false
set_option maxRecDepth 100000
set_option maxHeartbeats 4000000
namespace L2
open PySem PySem.Spec PyProof.Rows

section
variable {X : Cx} {pins : List (Addr × Obj)} {σ : St} {H : Hp} {s : Shared}
end
end L2

set_option Elab.async false
set_option linter.all false
set_option maxRecDepth 100000
set_option maxHeartbeats 4000000
namespace L2
open PySem PySem.Spec PyProof.Rows TL

/-! ### a comprehension whose turns leave the heap as it is: f tells what a value gives -/
theorem lc_pure {J : It} {vs : List V} (f : V → Option V) {g : TG} {tt : TT} {te : TE} {ns : List Nat} {σ : St} {H1 : Hp} {D : Addr} {Qd : Hp → Prop} (hz : vs.length ≤ sizeLine)
    (hgo : ∀ i acc, i < vs.length → J.go i (upd H1 D (.lst acc))) (hst : ∀ i acc, vs.length ≤ i → J.stop i (upd H1 D (.lst acc)))
    (hy : ∀ i acc x H', J.yld i (upd H1 D (.lst acc)) x H' → H' = upd H1 D (.lst acc) ∧ (i < vs.length → vs[i]? = some x))
    (hs : ∀ v ∈ vs, ∀ (acc : List V) (N : Hp → Prop), acc.length < sizeLine → (f v = none → N (upd H1 D (.lst acc))) → (∀ y, f v = some y → N (upd H1 D (.lst (acc ++ [y])))) →
      g v (wipe σ ns) (upd H1 D (.lst acc)) fun σ2 H2 => wipe σ2 ns = wipe σ ns ∧ tt σ2 H2 fun b H3 => if b = true then te σ2 H3 fun y H4 => ∃ acc', H4 D = some (.lst acc') ∧ acc'.length < sizeLine ∧ N (upd H4 D (.lst (acc' ++ [y]))) else N H3)
    (hd : Qd (upd H1 D (.lst (vs.filterMap f)))) :
    ∃ W : Nat → Nat → Hp → Prop, (∃ m, W 0 m (upd H1 D (.lst []))) ∧ ∀ i m H, W i m H →
      (J.stop i H ∧ Qd H) ∨ (J.go i H ∧ ∃ Nx : Hp → Prop, (∀ H', Nx H' → ∃ m', m' < m ∧ W (i + 1) m' H') ∧ ∀ x H', J.yld i H x H' → g x (wipe σ ns) H' fun σ2 H2 => wipe σ2 ns = wipe σ ns ∧ tt σ2 H2 fun b H3 =>
        if b = true then te σ2 H3 fun y H4 => ∃ acc, H4 D = some (.lst acc) ∧ acc.length < sizeLine ∧ Nx (upd H4 D (.lst (acc ++ [y]))) else Nx H3) := by
  refine ⟨fun i m H => m = vs.length - i ∧ i ≤ vs.length ∧ H = upd H1 D (.lst ((vs.take i).filterMap f)), ⟨vs.length, by simp, Nat.zero_le _, by simp⟩, ?_⟩
  rintro i m H ⟨rfl, hi, rfl⟩
  by_cases hlt : i < vs.length
  · refine .inr ⟨hgo i _ hlt, fun H' => H' = upd H1 D (.lst ((vs.take (i + 1)).filterMap f)), fun H' e => ⟨vs.length - (i + 1), by omega, rfl, hlt, e⟩, fun x H' y => ?_⟩
    obtain ⟨rfl, e⟩ := hy i _ x H' y
    have ex := e hlt
    have hm : x ∈ vs := List.mem_of_getElem? ex
    have ht : vs.take (i + 1) = vs.take i ++ [x] := by
      rw [List.take_succ, ex]; rfl
    have hl : ((vs.take i).filterMap f).length < sizeLine := Nat.lt_of_le_of_lt (List.length_filterMap_le _ _) (by rw [List.length_take]; omega)
    refine hs x hm _ _ hl (fun z => ?_) (fun w z => ?_)
    · rw [ht, List.filterMap_append]; simp [z]
    · rw [ht, List.filterMap_append]; simp [z]
  · have e : i = vs.length := by omega
    subst e
    rw [List.take_length]
    exact .inl ⟨hst _ _ (Nat.le_refl _), hd⟩
abbrev sgn (c : Nat) : V := .str ⟨#[c]⟩
abbrev sgns (x : Str) : List V := x.cps.toList.map sgn
/-- .. over the signs of a text -/
theorem lc_str {x : Str} (f : V → Option V) {g : TG} {tt : TT} {te : TE} {ns : List Nat} {σ : St} {H1 : Hp} {D : Addr} {Qd : Hp → Prop} (hz : x.cps.size ≤ sizeLine)
    (hs : ∀ c ∈ x.cps.toList, ∀ (acc : List V) (N : Hp → Prop), acc.length < sizeLine → (f (sgn c) = none → N (upd H1 D (.lst acc))) → (∀ y, f (sgn c) = some y → N (upd H1 D (.lst (acc ++ [y])))) →
      g (sgn c) (wipe σ ns) (upd H1 D (.lst acc)) fun σ2 H2 => wipe σ2 ns = wipe σ ns ∧ tt σ2 H2 fun b H3 => if b = true then te σ2 H3 fun y H4 => ∃ acc', H4 D = some (.lst acc') ∧ acc'.length < sizeLine ∧ N (upd H4 D (.lst (acc' ++ [y]))) else N H3)
    (hd : Qd (upd H1 D (.lst ((sgns x).filterMap f)))) :
    ∃ W : Nat → Nat → Hp → Prop, (∃ m, W 0 m (upd H1 D (.lst []))) ∧ ∀ i m H, W i m H →
      ((Its x).stop i H ∧ Qd H) ∨ ((Its x).go i H ∧ ∃ Nx : Hp → Prop, (∀ H', Nx H' → ∃ m', m' < m ∧ W (i + 1) m' H') ∧ ∀ v H', (Its x).yld i H v H' → g v (wipe σ ns) H' fun σ2 H2 => wipe σ2 ns = wipe σ ns ∧ tt σ2 H2 fun b H3 =>
        if b = true then te σ2 H3 fun y H4 => ∃ acc, H4 D = some (.lst acc) ∧ acc.length < sizeLine ∧ Nx (upd H4 D (.lst (acc ++ [y]))) else Nx H3) := by
  have hl : (sgns x).length = x.cps.size := by simp
  refine lc_pure (J := Its x) (vs := sgns x) f (by rw [hl]; exact hz) (fun i _ h => by rw [hl] at h; exact h) (fun i _ h => by rw [hl] at h; exact h) (fun i acc v H' h => ?_) (fun v hv => ?_) hd
  · obtain ⟨rfl, c, hc, rfl⟩ := h
    refine ⟨rfl, fun _ => ?_⟩
    rw [List.getElem?_map, Array.getElem?_toList, hc]; rfl
  · obtain ⟨c, hc, rfl⟩ := List.mem_map.mp hv
    exact hs c hc
/-- what a join of signs is -/
theorem join_sgns (cs : List Nat) : Txt.join ⟨#[]⟩ (cs.map fun c => (⟨#[c]⟩ : Str)) = ⟨cs.toArray⟩ := by
  have e : ∀ l : List (List Nat), joinL [] l = l.flatten := by
    intro l
    induction l with
    | nil => rfl
    | cons a l ih =>
      cases l with
      | nil => simp [joinL]
      | cons b l => simp only [joinL, ih]; simp
  have t : tl (Txt.join ⟨#[]⟩ (cs.map fun c => (⟨#[c]⟩ : Str))) = tl ⟨cs.toArray⟩ := by
    rw [join_eq, tl_join, List.map_map]
    show joinL [] (cs.map (tl ∘ fun c => (⟨#[c]⟩ : Str))) = cs
    rw [e]
    induction cs with
    | nil => rfl
    | cons c cs ih =>
      show [c] ++ (cs.map (tl ∘ fun c => (⟨#[c]⟩ : Str))).flatten = c :: cs
      rw [ih]; rfl
  have t' : (Txt.join ⟨#[]⟩ (cs.map fun c => (⟨#[c]⟩ : Str))).cps.toList = cs := t
  generalize Txt.join ⟨#[]⟩ (cs.map fun c => (⟨#[c]⟩ : Str)) = z at t' ⊢
  obtain ⟨a⟩ := z
  congr 1
  exact Array.toList_inj.mp t'
theorem len_sgns (cs : List Nat) : ((cs.map fun c => (⟨#[c]⟩ : Str)).map (·.length)).sum + (cs.map fun c => (⟨#[c]⟩ : Str)).length * (⟨#[]⟩ : Str).length = cs.length := by
  have e : ((cs.map fun c => (⟨#[c]⟩ : Str)).map (·.length)).sum = cs.length := by
    induction cs with
    | nil => rfl
    | cons c cs ih =>
      rw [List.map_cons, List.map_cons, List.sum_cons, ih]
      show 1 + cs.length = cs.length + 1
      omega
  rw [e]
  show cs.length + _ * 0 = cs.length
  omega
end L2

set_option Elab.async false
set_option linter.all false
set_option maxRecDepth 100000
set_option maxHeartbeats 4000000
namespace L2
open PySem PySem.Spec PyProof.Rows TL

/-- a loop over the signs of a text -/
theorem for_str {x : Str} {g : TG} {tb : TS} {D : Ends} {σ : St} {H : Hp} (Pv : Nat → St → Hp → Prop) (h0 : Pv 0 σ H)
    (hs : ∀ i c σ H, x.cps[i]? = some c → Pv i σ H → g (sgn c) σ H fun σ2 H2 => tb { D with nx := Pv (i + 1), ct := Pv (i + 1), bk := D.nx } σ2 H2) (hd : ∀ σ H, Pv x.cps.size σ H → D.nx σ H) :
    ∃ W : Nat → Nat → St → Hp → Prop, (∃ m, W 0 m σ H) ∧ ∀ i m σ H, W i m σ H →
      ((Its x).stop i H ∧ D.nx σ H) ∨ ((Its x).go i H ∧ ∃ N : St → Hp → Prop, (∀ σ' H', N σ' H' → ∃ m', m' < m ∧ W (i + 1) m' σ' H') ∧ ∀ v H', (Its x).yld i H v H' → g v σ H' fun σ2 H2 => tb { D with nx := N, ct := N, bk := D.nx } σ2 H2) := by
  refine ⟨fun i m σ H => m = x.cps.size - i ∧ i ≤ x.cps.size ∧ Pv i σ H, ⟨_, rfl, Nat.zero_le _, h0⟩, ?_⟩
  rintro i m σ H ⟨rfl, hi, p⟩
  by_cases hlt : i < x.cps.size
  · refine .inr ⟨hlt, Pv (i + 1), fun σ' H' p' => ⟨x.cps.size - (i + 1), by omega, rfl, hlt, p'⟩, fun v H' y => ?_⟩
    obtain ⟨e, c, hc, e2⟩ := y
    subst e e2
    exact hs i c σ _ hc p
  · have e : i = x.cps.size := by omega
    subst e
    exact .inl ⟨Nat.le_refl _, hd σ H p⟩
theorem vals_get : ∀ {xs : List V} {us : List Value}, xs.length = us.length → (∀ (j : Nat) (u : Value), us[j]? = some u → ∃ x, xs[j]? = some x ∧ RelV x u) → Vals xs us
  | [], [], _, _ => .nil
  | x :: xs, u :: us, hl, h => by
    obtain ⟨y, e, r⟩ := h 0 u rfl
    cases e
    refine .cons r (vals_get (by simpa using hl) fun j v hv => ?_)
    obtain ⟨y, e, r⟩ := h (j + 1) v (by simpa using hv)
    exact ⟨y, by simpa using e, r⟩
theorem vals_signs {x : Str} {acc : Array Value} (h : ItemsOf (SignAt x) acc x.cps.size) : Vals (sgns x) acc.toList := by
  refine vals_get (by simp [h.1]) fun j u hu => ?_
  obtain ⟨c, t, hc, rfl⟩ := h.2 j u (by simpa using hu)
  exact ⟨sgn c, by rw [List.getElem?_map, Array.getElem?_toList, hc]; rfl, ⟨t, rfl⟩⟩
section
variable {X : Cx}
/-- list(x), x a text -/
theorem call_listS (hc : X.calm = true) : CallR X (.type "list") (fun xs H Q => ∃ x : Str, xs = [.str x] ∧ x.cps.size ≤ sizeLine ∧ ∀ l, H l = none → Q (.ref l) (upd H l (.lst (sgns x)))) := by
  intro pins s σ H xs us Q I r h
  obtain ⟨x, rfl, hz, q⟩ := h
  obtain ⟨u, rfl, rx⟩ := vals1 r
  obtain ⟨t, rfl⟩ := rx
  refine call_list_str (I.ok.hd hc) x t (fun h' tk acc c' hk hS hacc => ?_) hz
  exact ⟨.ref s.heap.objs.size, _, I.laid (t' := tk) hk (Nat.le_refl _) (show ObjOk X.prog X.w _ h' _ (.lst (sgns x)) from ⟨by simpa using hz, acc.toList, c', vals_signs hacc, by simpa using hS⟩), rfl, q _ (I.hok.fresh (Nat.le_refl _))⟩
end
end L2

set_option Elab.async false
set_option linter.all false
set_option maxRecDepth 100000
set_option maxHeartbeats 4000000
namespace L2
open PySem PySem.Spec PyProof.Rows
section
variable {X : Cx}
end
end L2

set_option Elab.async false
set_option linter.all false
set_option maxRecDepth 100000
set_option maxHeartbeats 4000000
namespace L2
open PySem PySem.Spec PyProof.Rows

/-! ### zip of two tuples: the walk of each by its own step -/
section
variable {prog : Program} {w : World} {A : Around} {E : Value → Shared → Prop} {s : Shared}
end
end L2

set_option Elab.async false
set_option linter.all false
set_option maxRecDepth 100000
set_option maxHeartbeats 4000000
namespace L2
open PySem PySem.Spec PyProof.Rows

section
variable {prog : Program} {w : World} {A : Around} {E : Value → Shared → Prop} {s : Shared}
end
end L2

set_option Elab.async false
set_option linter.all false
set_option maxRecDepth 100000
set_option maxHeartbeats 4000000
namespace HT
open PySem PySem.Spec PyProof.Rows
section
variable {prog : Program} {w : World} {A : Around} {E : Value → Shared → Prop} {s : Shared}
end
end HT
namespace L2
open PySem PySem.Spec PyProof.Rows
section
variable {X : Cx}
end
end L2
namespace HT
open PySem PySem.Spec PyProof.Rows
section
open PySem.SeqAt
open PySem.AutoSeq1 (wpAny_loadPart')
open PySem.MeetsSeq PySem.MeetsSeq2 PySem.MeetsSeq3
end
section
variable {prog : Program} {w : World} {A : Around} {E : Value → Shared → Prop} {s : Shared}
end
end HT
namespace L2
open PySem PySem.Spec PyProof.Rows
section
variable {X : Cx}
end
end L2

set_option Elab.async false
set_option linter.all false
set_option maxRecDepth 100000
set_option maxHeartbeats 4000000
namespace Ti
open PySem PyProof.Rows
/-! ### an order told by numbers -/
theorem countP_lt {α : Type} {l : List α} {p q : α → Bool} (h : ∀ x, p x = true → q x = true) {a : α} (ha : a ∈ l) (hp : p a = false) (hq : q a = true) : l.countP p < l.countP q := by
  obtain ⟨l1, l2, rfl⟩ := List.append_of_mem ha
  rw [List.countP_append, List.countP_append, List.countP_cons, List.countP_cons, hp, hq]
  have a1 := List.countP_mono_left (l := l1) fun x _ => h x
  have a2 := List.countP_mono_left (l := l2) fun x _ => h x
  simp only [Bool.false_eq_true, if_false, if_true]
  omega
theorem rank_ok {α : Type} {l : List α} {lt : α → α → Bool} (irr : ∀ a, lt a a = false) (tr : ∀ a b c, lt a b = true → lt b c = true → lt a c = true) (nt : ∀ a b c, lt a c = true → lt a b = true ∨ lt b c = true) {p q : α} (hp : p ∈ l) :
    lt p q = decide (l.countP (fun x => lt x p) < l.countP fun x => lt x q) := by
  cases e : lt p q with
  | true => exact (decide_eq_true (countP_lt (fun x hx => tr x p q hx e) hp (irr p) e)).symm
  | false =>
    refine (decide_eq_false (Nat.not_lt.mpr (List.countP_mono_left fun x _ hx => ?_))).symm
    rcases nt x p q hx with h | h
    · exact h
    · rw [e] at h; cases h
/-- the text of a value -/
def txt : Value → Str
  | .str x _ => x
  | _ => ⟨#[]⟩
def ltS (p q : Keyed) : Bool := L2.bltS (txt p.1) (txt q.1)
def rkS (a₀ : Array Keyed) (p : Keyed) : Nat := a₀.toList.countP fun x => ltS x p
variable {prog : Program} {w : World} {A : Around} {E : Value → Shared → Prop} {s : Shared}
theorem rk_strs {a₀ : Array Keyed} (h : ∀ p ∈ a₀.toList, ∃ x t, p.1 = .str x t) : Rk prog w A E s oneType' (fun p => p ∈ a₀.toList) (rkS a₀) := by
  refine ⟨fun p q hp hq st Q hk hQ => ?_⟩
  have e : ltS p q = decide (rkS a₀ p < rkS a₀ q) := rank_ok (lt := ltS) (fun a => L2.bltS_irr _) (fun a b c => L2.bltS_tr) (fun a b c => L2.bltS_nt) hp
  obtain ⟨x, t, ex⟩ := h p hp
  obtain ⟨y, u, ey⟩ := h q hq
  rw [← e] at hQ
  rw [lt'_eq]
  refine wpS_bind (wpS_get ?_)
  rw [hk, keyLt'_oneType, ex, ey]
  refine wpS_bind (wpS_lift (wpAny_attempt (oneLt_str ⟨rfl, ?_⟩)))
  unfold ltS at hQ
  rw [ex, ey] at hQ
  exact wpS_pure hQ
/-- list.sort, of any length -/
theorem list_sort_any {a : Addr} {vs : List Value} {n : Nat} {P : Fin → Shared → Prop} {κ : SortKind} {ρ : Keyed → Nat} (ho : s.heap.get? a = some (seqObj "list" vs.toArray n)) (hz : vs.length ≤ sizeLine)
    (hK : ∀ h', (∀ b o, b ≠ a → s.heap.get? b = some o → h'.get? b = some o) → 2 ≤ vs.length → ∀ Q, Q κ { s with heap := h' } → wpAny (model prog w) A (keyKind' vs.toArray) Q E { s with heap := h' })
    (hR : ∀ h', (∀ b o, b ≠ a → s.heap.get? b = some o → h'.get? b = some o) → 2 ≤ vs.length → Rk prog w A E { s with heap := h' } κ (fun p => p ∈ (pairsOf vs).toList) ρ)
    (h : ∀ out : Array Keyed, out.Perm (pairsOf vs) → Srt ρ out 0 vs.length → P (.done (.ret .none)) { s with heap := sortedHeap s.heap a vs (out.map (·.2)) }) : wpAny (model prog w) A (Builtin.«list.sort» ⟨[.ref a], []⟩) P E s := by
  have ha := Heap.lt_size ho
  have hsz : vs.toArray.size = vs.length := List.size_toArray
  obtain ⟨c, hc⟩ : ∃ c, (s.heap.update a (Obj.mapSeq fun _ => #[])).get? a = some (seqObj "list" #[] c) := ⟨_, get?_update_seq ho fun _ => #[]⟩
  have hc6 : (((s.heap.update a (Obj.mapSeq fun _ => #[])).push (seqObj "tuple" vs.toArray 0)).push (seqObj "list" #[] 0)).get? a = some (seqObj "list" #[] c) := Heap.get?_push_of_some _ (Heap.get?_push_of_some _ hc)
  have kept : ∀ b o, b ≠ a → s.heap.get? b = some o → (((s.heap.update a (Obj.mapSeq fun _ => #[])).push (seqObj "tuple" vs.toArray 0)).push (seqObj "list" #[] 0)).get? b = some o := fun b o hb e => Heap.get?_push_of_some _ (Heap.get?_push_of_some _ (by rw [Heap.get?_update_other _ _ (Ne.symm hb)]; exact e))
  rw [list_sort_plain]
  refine wpAny_bind (listItems_at ho rfl (wpAny_bind (listUpdate_at ho rfl (wpAny_bind (seqEpoch_at hc rfl (wpAny_bind (wpAny_newTuple (wpAny_bind (wpAny_newList (wpAny_holding ?_) (Nat.zero_le _))) hz)))) (by rw [hsz]; exact hz) (Nat.zero_le _))))
  show wpAny (model prog w) A _ P E { s with heap := ((s.heap.update a (Obj.mapSeq fun _ => #[])).push (seqObj "tuple" vs.toArray 0)).push (seqObj "list" #[] 0) }
  generalize hH : ((s.heap.update a (Obj.mapSeq fun _ => #[])).push (seqObj "tuple" vs.toArray 0)).push (seqObj "list" #[] 0) = H6 at hc6 kept ⊢
  have fin : ∀ out : Array Keyed, out.Perm (pairsOf vs) → Srt ρ out 0 vs.length → P (.done (.ret .none)) { s with heap := H6.update a (Obj.mapSeq fun _ => out.map (·.2)) } := fun out h1 h2 => by rw [← hH]; exact h out h1 h2
  have osz : ∀ out : Array Keyed, out.Perm (pairsOf vs) → (out.map (·.2)).size ≤ sizeLine + 1 := fun out hp => by rw [Array.size_map, hp.size_eq, pairsOf_size]; omega
  dsimp only
  by_cases h2 : vs.toArray.size < 2
  · rw [if_pos h2, if_pos h2]
    refine wpAny_bind (wpAny_pure (wpAny_bind ?_))
    rw [StateT.run_pure]
    refine wpAny_pure (wpAny_bind (seqEpoch_at hc6 rfl (wpAny_bind (listUpdate_at hc6 rfl ?_ (Nat.zero_le _) (osz (vs.toArray.zip vs.toArray) (Array.Perm.refl _))))))
    simp only [bne_self_eq_false, Bool.false_eq_true, if_false]
    refine wpAny_pure (fin (vs.toArray.zip vs.toArray) (Array.Perm.refl _) fun i j i1 i2 i3 => ?_)
    have : i = j := by omega
    rw [this]
    exact Nat.le_refl _
  · rw [if_neg h2, if_neg h2]
    have h2' : 2 ≤ vs.length := by omega
    have R := hR H6 kept h2'
    refine wpAny_bind (hK H6 kept h2' _ ?_)
    refine wpAny_bind (wpAny_mono (wpS_runs R (a₀ := pairsOf vs) (fun p hp => hp) (st := SortSt.mk' κ (vs.toArray.zip vs.toArray) #[] 7 none) (Q := fun _ st' => (arrOf st').Perm (pairsOf vs) ∧ failedOf st' = none ∧ Srt ρ (arrOf st') 0 vs.length)
      rfl rfl rfl rfl (by rw [pairsOf_size]; omega) fun st' a1 a2 a3 => ⟨a1, a2, by rw [pairsOf_size] at a3; exact a3⟩) ?_ fun _ _ e => e)
    rintro ⟨⟨⟩, st'⟩ s' ⟨rfl, hp, hf, hs⟩
    refine wpAny_bind (seqEpoch_at hc6 rfl (wpAny_bind (listUpdate_at hc6 rfl ?_ (Nat.zero_le _) (osz _ hp))))
    rw [hf]
    simp only [bne_self_eq_false, Bool.false_eq_true, if_false]
    exact wpAny_pure (fin (arrOf st') hp hs)
end Ti

set_option Elab.async false
set_option linter.all false
set_option maxRecDepth 100000
set_option maxHeartbeats 4000000
namespace Sv
open PySem PyProof.Rows
variable {prog : Program} {w : World} {A : Around} {E : Value → Shared → Prop} {s : Shared}
/-! ### a set of texts, as it is filled -/
abbrev kS (prog : Program) (w : World) := PySem.strKind prog w
theorem wpAny_choose {src : Source} {n : Nat} {Q : Nat → Shared → Prop} (hn : n ≠ 0) (h : ∀ i, i < n → Q i { s with drawn := s.drawn.bump src }) : wpAny (model prog w) A (choose src n) Q E s :=
  fun _ _ _ => ⟨hn, h _ (Nat.mod_lt _ (Nat.pos_of_ne_zero hn))⟩
/-- the object of a set of texts: its entries, its table -/
structure SO (prog : Program) (w : World) (h : Heap) (a : Addr) (es : Array (Int × Value)) (t : SetTable) : Prop where
  ex : ∃ o ep, h.get? a = some o ∧ o.ExactSet ∧ o.data = .set es ep t
  el : ElemsOf (kS prog w) es.toList
  fit : t.fits es.size = true
  led : t.led = !w.params.followText "set-order"
  pl : 0 < es.size → t.plain = false
def tx (e : Int × Value) : Str := Ti.txt e.2
theorem or_led (t : SetTable) (n : Nat) : (t.orStandIn n).led = t.led := by unfold SetTable.orStandIn; split <;> rfl
theorem lay_led (t : SetTable) (es : Array (Int × Value)) (h : Int) (x : Value) : (layNew t es h x).2.1.led = t.led := by
  unfold layNew
  split
  · exact or_led _ _
  · rfl
theorem laid_led {m f v : Nat} {l p : Bool} {hs : Array Int} {r : SetTable × Array Nat} (h : SetTable.laid m f v l p hs = some r) : r.1.led = l ∧ r.1.plain = p := by
  unfold SetTable.laid at h
  simp only [Option.bind_eq_bind, Option.bind_eq_some_iff, Option.pure_def, Option.some.injEq] at h
  obtain ⟨_, _, h⟩ := h
  subst h
  exact ⟨rfl, rfl⟩
theorem relay_led (t : SetTable) (es : Array (Int × Value)) (n : Nat) (hp : t.plain = false) : (relayAll t es n).2.1.led = t.led ∧ (relayAll t es n).2.1.plain = false := by
  unfold relayAll
  split
  · rename_i t' order e
    have e : SetTable.laid _ _ _ _ _ _ = some (t', order) := e
    obtain ⟨e1, e2⟩ := laid_led e
    dsimp only
    split
    · exact ⟨e1, e2.trans hp⟩
    · exact ⟨rfl, rfl⟩
  · exact ⟨rfl, rfl⟩
theorem is_kS {c : Str} {v : Value} : (kS prog w).is c v = true ↔ ∃ t, v = .str c t := ⟨Value.isStrOf_shape, fun ⟨t, e⟩ => by subst e; show Value.isStrOf c (.str c t) = true; simp [Value.isStrOf]⟩
theorem tx_of {e : Int × Value} {c : Str} : (kS prog w).is c e.2 = true → tx e = c := fun h => by
  obtain ⟨t, e'⟩ := is_kS.mp h
  unfold tx
  rw [e']
  rfl
theorem el_tx {l : List (Int × Value)} (h : ElemsOf (kS prog w) l) {e : Int × Value} (he : e ∈ l) {c : Str} (ht : tx e = c) : (kS prog w).is c e.2 = true := by
  obtain ⟨⟨k, hk, _⟩, _⟩ := h e he
  have := tx_of hk
  rw [this] at ht
  subst ht
  exact hk
/-- stored anew -/
theorem SO.store {h : Heap} {a : Addr} {es es' : Array (Int × Value)} {t t' : SetTable} {ep : Nat} {o : Obj} (ho : h.get? a = some o) (hex : o.ExactSet) (hd : o.data = .set es ep t) (el : ElemsOf (kS prog w) es'.toList) (hf : t'.fits es'.size = true) (hl : t'.led = !w.params.followText "set-order") (hp : t'.plain = false) :
    SO prog w (h.update a (Obj.putSet es' t')) a es' t' ∧ (h.update a (Obj.putSet es' t')).get? a = some { o with data := .set es' (ep + 1) t' } := by
  have hg := Heap.get?_update_self (Obj.putSet es' t') ho (by rw [putSet_of es' t' hd]; rfl)
  rw [putSet_of es' t' hd] at hg
  exact ⟨⟨⟨_, _, hg, hex, rfl⟩, el, hf, hl, fun _ => hp⟩, hg⟩
theorem set_add {a : Addr} {es : Array (Int × Value)} {t : SetTable} {c : Str} {tk : Tok} {Q : Bool → Shared → Prop} (S : SO prog w s.heap a es t) (hb : es.size + 1 < scanBound) (h0 : (∃ e ∈ es.toList, tx e = c) → Q false s)
    (h1 : (∀ e ∈ es.toList, tx e ≠ c) → ∀ h' es' t', Heap.SameBut a s.heap h' → SO prog w h' a es' t' → (es'.toList.map tx).Perm (es.toList.map tx ++ [c]) → Q true { s with heap := h' }) : wpAny (model prog w) A (setAddHashed a (.str c tk) (hashStr w c)) Q E s := by
  obtain ⟨⟨o, ep, ho, hex, hd⟩, el, fit, led, pl⟩ := S
  have hkey : (kS prog w).is c (.str c tk) = true := is_kS.mpr ⟨tk, rfl⟩
  have hbs : byScan (.str c tk) es = true := byScan_of (knd := kS prog w) rfl (by omega) el
  unfold setAddHashed setAddHashedIn
  refine wpAny_holding (wpAny_bind (wpAny_setState_of ho hd fit ?_))
  dsimp only
  rw [if_pos hbs]
  unfold setAddByScan
  refine wpAny_bind (wpAny_bind (wpAny_rule (wpAny_bind (wpAny_setScan_of (knd := kS prog w) hkey ho hd fit el ?_))))
  cases hr : List.findIdx? (fun e => (kS prog w).is c e.2) es.toList with
  | some j =>
    obtain ⟨hj, hpj, _⟩ := List.findIdx?_eq_some_iff_getElem.mp hr
    exact wpAny_pure (wpAny_pure (h0 ⟨_, List.getElem_mem hj, tx_of hpj⟩))
  | none =>
    have hno : ∀ e ∈ es.toList, tx e ≠ c := fun e he ht => by
      have := List.findIdx?_eq_none_iff.mp hr e he
      rw [el_tx el he ht] at this
      cases this
    have gw : ∀ (b : Bool) {s₁ : Shared} {Q' : Unit → Shared → Prop}, Q' () s₁ → wpAny (model prog w) A (match b with | true => rule "set.scan.the-table-gave-way" | false => pure ()) Q' E s₁ := fun b s₁ Q' hq => by
      cases b
      · exact wpAny_pure hq
      · exact wpAny_rule hq
    have pm := layNew_perm t es (hashStr w c) (.str c tk)
    have ft := layNew_fits t es (hashStr w c) (.str c tk)
    have ld := lay_led t es (hashStr w c) (.str c tk)
    dsimp only
    generalize layNew t es (hashStr w c) (.str c tk) = L at pm ft ld ⊢
    obtain ⟨ea, t1, wd, gv⟩ := L
    dsimp only at pm ft ld ⊢
    rw [Array.toList_push] at pm
    have el1 : ElemsOf (kS prog w) ea.toList := (el.push hkey rfl).perm pm
    have pt : (ea.toList.map tx).Perm (es.toList.map tx ++ [c]) := by
      have := pm.map tx
      rw [List.map_append] at this
      exact this
    have z1 : ea.size < scanBound := by
      have := pm.length_eq
      rw [List.length_append, Array.length_toList, Array.length_toList] at this
      simp at this
      omega
    refine wpAny_bind (gw gv ?_)
    -- what is behind: plain no more
    have tail : ∀ tb : SetTable, tb.fits ea.size = true → tb.led = t.led → tb.plain = false → ∀ R : Option Bool → Shared → Prop, (∀ h' es' t', Heap.SameBut a s.heap h' → SO prog w h' a es' t' → (es'.toList.map tx).Perm (es.toList.map tx ++ [c]) → R (some true) { s with heap := h' }) →
        wpAny (model prog w) A (do
          storeSet a ea tb
          if (!wd && tb.tooFull) = true then do
              (match (relayAll tb ea (SetTable.grown ea.size)).2.2 with | true => rule "set.scan.the-table-gave-way" | false => pure ())
              storeSet a (relayAll tb ea (SetTable.grown ea.size)).1 (relayAll tb ea (SetTable.grown ea.size)).2.1
              pure (some true)
            else pure (some true)) R E s := fun tb f2 l2 p2 R hR => by
      refine wpAny_bind (wpAny_storeSet_of ho hd ?_ (fits_of_scanBound z1))
      obtain ⟨S1, g1⟩ := SO.store (prog := prog) (w := w) ho hex hd el1 f2 (l2.trans led) p2
      have sb1 := Heap.SameBut.update s.heap a (Obj.putSet ea tb)
      split
      · have rp := relayAll_perm tb ea (SetTable.grown ea.size)
        have rf := relayAll_fits tb ea (SetTable.grown ea.size)
        obtain ⟨rl, rpl⟩ := relay_led tb ea (SetTable.grown ea.size) p2
        generalize relayAll tb ea (SetTable.grown ea.size) = Rl at rp rf rl rpl ⊢
        obtain ⟨es2, t3, gv2⟩ := Rl
        dsimp only at rp rf rl rpl ⊢
        have z2 : es2.size < scanBound := by
          have := rp.length_eq
          rw [Array.length_toList, Array.length_toList] at this
          omega
        refine wpAny_bind (gw gv2 (wpAny_bind (wpAny_storeSet_of g1 rfl ?_ (fits_of_scanBound z2))))
        obtain ⟨S2, _⟩ := SO.store (prog := prog) (w := w) g1 hex rfl (el1.perm rp) rf (rl.trans (l2.trans led)) rpl
        exact wpAny_pure (hR _ es2 t3 (sb1.trans (Heap.SameBut.update _ a _)) S2 ((rp.map tx).trans pt))
      · exact wpAny_pure (hR _ ea tb sb1 S1 pt)
    have fin : ∀ h' es' t', Heap.SameBut a s.heap h' → SO prog w h' a es' t' → (es'.toList.map tx).Perm (es.toList.map tx ++ [c]) → wpAny (model prog w) A (pure true) Q E { s with heap := h' } := fun h' es' t' x1 x2 x3 => wpAny_pure (h1 hno h' es' t' x1 x2 x3)
    cases hp1 : t1.plain with
    | true =>
      refine wpAny_bind ?_
      rw [hashByValue_scannable 8 rfl]
      exact wpAny_pure (tail { t1 with plain := false } (SetTable.fits_plain_off ft) ld rfl _ fin)
    | false => exact wpAny_bind (wpAny_pure (tail t1 ft ld hp1 _ fin))
end Sv

set_option Elab.async false
set_option linter.all false
set_option maxRecDepth 100000
set_option maxHeartbeats 4000000
namespace Sv
open PySem PyProof.Rows
variable {prog : Program} {w : World} {A : Around} {E : Value → Shared → Prop} {s : Shared}
/-- what is in it: the first i signs, each once -/
structure Has (x : Str) (i : Nat) (es : Array (Int × Value)) : Prop where
  nd : (es.toList.map tx).Nodup
  mem : ∀ c, c ∈ es.toList.map tx ↔ ∃ d ∈ x.cps.toList.take i, c = ⟨#[d]⟩
  sz : es.size ≤ i
theorem SO.at {h h' : Heap} {a : Addr} {es : Array (Int × Value)} {t : SetTable} (S : SO prog w h a es t) (e : ∀ o, h.get? a = some o → h'.get? a = some o) : SO prog w h' a es t := by
  obtain ⟨o, ep, ho, hx⟩ := S.ex
  exact ⟨⟨o, ep, e o ho, hx⟩, S.el, S.fit, S.led, S.pl⟩
theorem set_loop {I S : Addr} {x : Str} {St : Nat → Heap → Prop} {R : Result → Shared → Prop} (W : Walks prog w A.in1 I [I] [I] x.cps.size (SignAt x) St) (hSI : S ≠ I) (hb : x.cps.size + 1 < scanBound) :
    ∀ (k i : Nat) (s : Shared) (es : Array (Int × Value)) (t : SetTable), x.cps.size - i = k → i ≤ x.cps.size → St i s.heap → SO prog w s.heap S es t → Has x i es →
      (∀ h' tk es' t', (∀ b o, b ≠ S → b ≠ I → s.heap.get? b = some o → h'.get? b = some o) → SO prog w h' S es' t' → Has x x.cps.size es' → R (.ok (.ret .none)) { s with heap := h', toks := tk }) →
      codeAny (model prog w) A (.builtin "set.update.loop" ⟨[.ref S, .ref I], []⟩) R s := by
  intro k
  induction k with
  | zero =>
    intro i s es t hk hi st so ha hR
    have e : i = x.cps.size := by omega
    subst e
    refine codeAny_builtin F.entry_set_update_loop ?_
    rw [Around.under_plainId F.plain_set_update_loop _]
    refine wpAny_bind (m := pyNext (.ref I)) (W.done s _ _ st fun h' tk kp => wpAny_pure (hR h' tk es t (fun b o _ hI => kp b o (by simpa using hI)) (so.at fun o e => kp S o (by simpa using hSI) e) ha))
  | succ k ih =>
    intro i s es t hk hi st so ha hR
    refine codeAny_builtin F.entry_set_update_loop ?_
    rw [Around.under_plainId F.plain_set_update_loop _]
    refine wpAny_bind (m := pyNext (.ref I)) (W.item i s _ _ (by omega) st fun v h' tk hv st' kp => ?_)
    obtain ⟨d, u, hd, rfl⟩ := hv
    have so' : SO prog w h' S es t := so.at fun o e => kp S o (by simpa using hSI) e
    have htk : x.cps.toList.take (i + 1) = x.cps.toList.take i ++ [d] := by rw [List.take_succ, Array.getElem?_toList, hd]; rfl
    refine wpAny_bind (m := holding [Value.str ⟨#[d]⟩ u] (setAdd S (.str ⟨#[d]⟩ u))) (wpAny_holding ?_)
    unfold setAdd
    refine wpAny_holding (wpAny_bind (wpAny_pyHash_str ?_))
    have hs := ha.sz
    refine set_add (s := _) so' (by omega) (fun hin => ?_) (fun hno h2 es2 t2 sb so2 pm => ?_)
    · refine wpAny_pure ⟨plainId_quiet F.plain_set_update_loop _, ih (i + 1) _ es t (by omega) (by omega) st' so' ⟨ha.nd, fun c => ?_, by omega⟩ fun h3 tk3 es3 t3 kp3 so3 ha3 => hR h3 tk3 es3 t3 (fun b o hS hI e => kp3 b o hS hI (kp b o (by simpa using hI) e)) so3 ha3⟩
      rw [ha.mem, htk]
      refine ⟨fun ⟨e, he, h⟩ => ⟨e, List.mem_append_left _ he, h⟩, fun ⟨e, he, h⟩ => ?_⟩
      rcases List.mem_append.mp he with he | he
      · exact ⟨e, he, h⟩
      · rw [List.mem_singleton] at he
        subst he
        obtain ⟨q, hq, hq2⟩ := hin
        rw [h, ← ha.mem]
        exact List.mem_map.mpr ⟨q, hq, hq2⟩
    · have st2 : St (i + 1) h2 := W.frame _ h' h2 st' fun b hb o e => by
        rw [List.mem_singleton] at hb
        subst hb
        rw [sb.2 b (Ne.symm hSI)]
        exact e
      have hz : es2.size = es.size + 1 := by
        have := pm.length_eq
        simpa using this
      refine wpAny_pure ⟨plainId_quiet F.plain_set_update_loop _, ih (i + 1) _ es2 t2 (by omega) (by omega) st2 so2 ⟨?_, fun c => ?_, by omega⟩ fun h3 tk3 es3 t3 kp3 so3 ha3 => hR h3 tk3 es3 t3 (fun b o hS hI e => kp3 b o hS hI (by show h2.get? b = some o; rw [sb.2 b hS]; exact kp b o (by simpa using hI) e)) so3 ha3⟩
      · refine (pm.nodup_iff).mpr (List.nodup_append.mpr ⟨ha.nd, by simp, fun a ha' b hb e => ?_⟩)
        rw [List.mem_singleton] at hb
        subst hb
        obtain ⟨q, hq, hq2⟩ := List.mem_map.mp ha'
        exact hno q hq (hq2.trans e)
      · rw [pm.mem_iff, List.mem_append, ha.mem, htk, List.mem_singleton]
        refine ⟨fun h => ?_, fun ⟨e, he, h⟩ => ?_⟩
        · rcases h with ⟨e, he, h⟩ | h
          · exact ⟨e, List.mem_append_left _ he, h⟩
          · exact ⟨d, by simp, h⟩
        · rcases List.mem_append.mp he with he | he
          · exact .inl ⟨e, he, h⟩
          · rw [List.mem_singleton] at he
            subst he
            exact .inr h
end Sv

set_option Elab.async false
set_option linter.all false
set_option maxRecDepth 100000
set_option maxHeartbeats 4000000
namespace Sv
open PySem PyProof.Rows
variable {prog : Program} {w : World} {A : Around} {E : Value → Shared → Prop} {s : Shared}
theorem no_set : isSubtype (.type "str") (.type "set") = pure false := by rw [isSubtype_type]; kernel_rfl
theorem no_frz : isSubtype (.type "str") (.type "frozenset") = pure false := by rw [isSubtype_type]; kernel_rfl
abbrev nO (w : World) : Obj := { cls := .type "set", dict := none, data := .set #[] 0 (.fresh 0 0 (!w.params.followText "set-order")) }
theorem set_new (a : Value) {Q₁ : Value → Shared → Prop} (h : Q₁ (.ref s.heap.objs.size) { s with heap := s.heap.push (nO w) }) : codeAny (model prog w) A (.call (.builtin "set.__new__") ⟨[.type "set", a], []⟩) (wants Q₁ E) s := by
  refine codeAny_of_tree (wpAny_bind (m := checkBuiltinCall "set.__new__" ⟨[.type "set", a], []⟩) (wpAny_of_eq (F.newCall_set_1 a) (wpAny_pure ⟨plainId_quiet F.plain_set_new _, codeAny_builtin F.entry_set_new ?_⟩)))
  have hsub := sub_set_self
  rw [Around.under_plainId F.plain_set_new _]
  unfold Builtin.«set.__new__»
  unfold Builtin.Frozenset.newClass
  obtain ⟨hp, gn, dr, tk, os⟩ := s
  dsimp only
  wp_walk
  refine wpAny_askSetting (wpAny_pure (a := _) ?_)
  simp only [newObj]
  refine wpAny_bind (wpAny_alloc (wpAny_pure (wpAny_pure h)))
/-- set(x), x a text -/
theorem call_set_str {x : Str} {u : Tok} {Q : Value → Shared → Prop} (hh : A.handled = none) (hb : x.cps.size + 1 < scanBound)
    (h : ∀ h' tk es t, (∀ b o, s.heap.get? b = some o → h'.get? b = some o) → SO prog w h' s.heap.objs.size es t → Has x x.cps.size es → Q (.ref s.heap.objs.size) { s with heap := h', toks := tk }) :
    wpAny (model prog w) A (call (.type "set") [.str x u]) Q E s := by
  obtain ⟨c, tl, hmro⟩ := F.called_set.mro
  have hmade := F.called_set.made
  have hsub := F.called_set.sub
  have g1 := F.called_set.notType
  have g2 := F.called_set.canCreate
  have g3 := F.typeCall_set_1 (.str x u)
  refine wpAny_call (codeAny_of_tree (show wpAny _ _ (callAny (.type "set") _) _ _ _ from wpAny_pure ⟨Code.quiet_builtin _ (by decide +kernel), codeAny_builtin F.entry_type_call ?_⟩))
  rw [Around.under_plain (weight_type_call_type "set" [.str x u] []) rfl]
  repeat (any_goals (first | assumption | wp_step))
  refine codeAny_mono (set_new (.str x u) (E := E) (Q₁ := fun ob s₁ => ob = .ref s.heap.objs.size ∧ s₁ = { s with heap := s.heap.push (nO w) }) ⟨rfl, rfl⟩) fun r s₁ hr => ?_
  cases r with
  | error e => exact hr
  | ok fl =>
    cases fl with
    | ret ob =>
      obtain ⟨rfl, rfl⟩ := hr
      have hS : (s.heap.push (nO w)).get? s.heap.objs.size = some (nO w) := Heap.get?_push_size _ rfl
      have hT : Shared.TypeIs { s with heap := s.heap.push (nO w) } (.ref s.heap.objs.size) "set" := ⟨_, hS, rfl⟩
      have k1 := F.called_set.init.lookup
      have k2 := F.called_set.init.bind (.ref s.heap.objs.size)
      repeat (any_goals (first | assumption | wp_step))
      refine codeAny_mono (codeAny_call_builtin (R := wants (fun r s₂ => r = .none ∧ ∃ h' tk es t, s₂ = { s with heap := h', toks := tk } ∧ SO prog w h' s.heap.objs.size es t ∧ Has x x.cps.size es ∧ ∀ b o, s.heap.get? b = some o → h'.get? b = some o) E) F.called_set.init.plain F.entry_set_init (check_set_init_1 hT ?_)) fun r₂ s₂ hr₂ => ?_
      · have n1 := no_set
        have n2 := no_frz
        unfold Builtin.«set.__init__»
        unfold noKeywords Builtin.Frozenset.updateFrom
        generalize hPI : pyIter = PI
        wp_walk
        subst hPI
        refine wpAny_pyIter_str fun ob St W hst => wpAny_bind (wpAny_runValue ?_)
        have hI : (s.heap.push (nO w)).objs.size = s.heap.objs.size + 1 := by rw [Heap.size_push]
        have hne : s.heap.objs.size ≠ (s.heap.push (nO w)).objs.size := by rw [hI]; exact Nat.ne_of_lt (Nat.lt_succ_self _)
        have so0 : SO prog w ((s.heap.push (nO w)).push ob) s.heap.objs.size #[] (.fresh 0 0 (!w.params.followText "set-order")) :=
          ⟨⟨_, _, Heap.get?_push_of_some _ hS, ⟨rfl, rfl, rfl⟩, rfl⟩, fun e he => by simp at he, rfl, rfl, fun z => absurd z (by decide)⟩
        refine set_loop (W _ (by simp [hh])) hne hb x.cps.size 0 _ #[] _ (Nat.sub_zero _) (Nat.zero_le _) hst so0 ⟨by simp, fun c => by simp, Nat.le_refl _⟩ fun h' tk es t kp so ha => ?_
        refine wpAny_pure (wpAny_pure ⟨rfl, h', tk, es, t, rfl, so, ha, fun b o e => ?_⟩)
        have hlt := Heap.lt_size e
        exact kp b o (Nat.ne_of_lt hlt) (by rw [hI]; exact Nat.ne_of_lt (Nat.lt_succ_of_lt hlt)) (Heap.get?_push_of_some _ (Heap.get?_push_of_some _ e))
      · cases r₂ with
        | error e => exact hr₂
        | ok fl₂ =>
          cases fl₂ with
          | ret r =>
            obtain ⟨rfl, h', tk, es, t, rfl, so, ha, kp⟩ := hr₂
            repeat (any_goals (first | assumption | wp_step))
            exact h h' tk es t kp so ha
          | _ => exact hr₂.elim
    | _ => exact hr.elim
end Sv

set_option Elab.async false
set_option linter.all false
set_option maxRecDepth 100000
set_option maxHeartbeats 4000000
namespace Sv
open PySem PyProof.Rows
variable {prog : Program} {w : World} {A : Around} {E : Value → Shared → Prop} {s : Shared}
/-! ### a set, walked -/
theorem own_si : Manifest.owners.lookup (String.ofList ['r', 'o', 't', 'a', 'r', 'e', 't', 'i', '_', 't', 'e', 's'].reverse) = some Manifest.sig_set_iterator := by kernel_rfl
theorem slot_si : Slot "set_iterator" "__next__" "set_iterator.__next__" := .of (owner := "set_iterator") (n := "__next__") (by rw [typeLookup_type, builtinLookup_eq_fast]; kernel_rfl) (by decide +kernel) (by decide +kernel) (by decide +kernel) (by first | exact .inl (by decide +kernel) | exact .inr (by decide +kernel)) (by rw [isSubtype_type]; kernel_rfl)
theorem entry_si : entryFor table "set_iterator.__next__" = some Builtin.«set_iterator.__next__» := entryFor_of_tree (by kernel_rfl)
theorem args_si (a : Value) : argsOk "set_iterator.__next__" ⟨[a], []⟩ := by
  unfold argsOk
  rw [signature?_of (id := "set_iterator.__next__") (n := ['_', '_', 't', 'x', 'e', 'n', '_', '_']) (o := ['r', 'o', 't', 'a', 'r', 'e', 't', 'i', '_', 't', 'e', 's']) (by kernel_rfl) own_si]
  kernel_rfl
theorem entry_it : entryFor table "set.__iter__" = some Builtin.«frozenset.__iter__» := entryFor_alias (id' := "frozenset.__iter__") (by kernel_rfl) (by first | rfl | decide +kernel | (unfold String.splitOn; simp +decide [String.splitOnAux])) (by decide +kernel) (by kernel_rfl)
abbrev itO (fst : Value) (i : Nat) (S : Addr) (n ep : Nat) : Obj := { cls := .type "set_iterator", dict := none, data := .fields #[fst, rawInt i, .ref S, rawInt n, rawInt ep], slots := #[] }
/-- the set stands still -/
structure Still (h : Heap) (S : Addr) (o : Obj) (es : Array (Int × Value)) (ep : Nat) (t : SetTable) : Prop where
  ob : h.get? S = some o
  ex : o.ExactSet
  da : o.data = .set es ep t
  fit : t.fits es.size = true
variable {I S : Addr} {o : Obj} {es : Array (Int × Value)} {ep i : Nat} {t : SetTable}
/-- the end of a walk -/
theorem next_stop (it : Addr) (hh : A.handled = none) (s1 : Shared) (R : Fin → Shared → Prop) : wpAny (model prog w) A.in1 (newExc (.type "StopIteration") [] >>= fun e => (raiseNew e : Sem Fin)) R (fun e s' => ∃ h', Heap.ExtBut it s1.heap h' ∧ s' = { s1 with heap := h' } ∧ s'.TypeIs e "StopIteration") s1 := by
  refine wpAny_bind ?_
  simp only [newExc, newTuple]
  refine wpAny_bind (wpAny_newObj_type ?_ (by size_fits))
  refine wpAny_bind (m := firstArgMember _ _) (wpAny_of_eq (a := Value.none) (by first | rfl | (simp only [firstArgMember]; rfl)) (wpAny_newObj_type ?_ (by size_fits)))
  simp only [raiseNew]
  refine wpAny_bind (wpAny_handled ?_)
  rw [show A.in1.handled = none from hh]
  exact wpAny_bind (wpAny_pure (wpAny_throw ⟨_, ((Heap.ExtBut.refl _ _).push _).push _, rfl, ⟨_, Heap.get?_push_size _ rfl, rfl⟩⟩))
/-- next, by the body -/
theorem next_of {it : Addr} {Q : Option Value → Shared → Prop} (hT : s.TypeIs (.ref it) "set_iterator")
    (h : wpAny (model prog w) A.in1 (Builtin.«set_iterator.__next__» ⟨[.ref it], []⟩) (fun f s' => ∃ v, f = .done (.ret v) ∧ Q (some v) s') (fun e s' => s'.TypeIs e "StopIteration" ∧ Q none s') s) : wpAny (model prog w) A (pyNext (.ref it)) Q E s := by
  unfold pyNext
  refine wpAny_bind (wpAny_attempt (wpAny_callSpecial?_slot (name := Str.ofString "__next__") hT slot_si (wpAny_call_entry slot_si hT entry_si (wpAny_mono h (fun f s' ⟨v, e, q⟩ => ?_) fun e s' ⟨t, q⟩ => ?_) (args_si _))))
  · subst e
    exact ⟨v, rfl, wpAny_pure q⟩
  · refine wpAny_bind (wpAny_isInstance (T := "StopIteration") (b := true) t isSubtype_stop ?_)
    exact wpAny_pure q
end Sv

set_option Elab.async false
set_option linter.all false
set_option maxRecDepth 100000
set_option maxHeartbeats 4000000
namespace Sv
open PySem PyProof.Rows
variable {prog : Program} {w : World} {A : Around} {E : Value → Shared → Prop} {s : Shared}
variable {I S : Addr} {o : Obj} {es : Array (Int × Value)} {ep i : Nat} {t : SetTable}
theorem pick_go {α : Type} (nx : Nat → Nat) : ∀ (fuel k : Nat) (left : List α) (out : Array α), left.length ≤ fuel → (pickOrder.go nx fuel k left out).toList.Perm (out.toList ++ left)
  | 0, k, left, out, h => by
    have : left = [] := List.length_eq_zero_iff.mp (by omega)
    subst this
    simp [pickOrder.go]
  | fuel + 1, k, left, out, h => by
    unfold pickOrder.go
    rcases Nat.eq_zero_or_pos left.length with hz | hz
    · have : left = [] := List.length_eq_zero_iff.mp hz
      subst this
      simp
    · have hm := Nat.mod_lt (nx k) hz
      rw [List.getElem?_eq_getElem hm]
      dsimp only
      refine (pick_go nx fuel (k + 1) _ _ (by rw [List.length_eraseIdx_of_lt hm]; omega)).trans ?_
      rw [Array.toList_push, List.append_assoc]
      refine List.Perm.append_left _ ?_
      rw [List.eraseIdx_eq_take_drop_succ]
      have e : left = left.take (nx k % left.length) ++ left[nx k % left.length] :: left.drop (nx k % left.length + 1) := by rw [List.getElem_cons_drop, List.take_append_drop]
      conv => rhs; rw [e]
      exact (List.perm_middle (l₁ := left.take (nx k % left.length))).symm
theorem pick_perm {α : Type} (nx : Nat → Nat) (xs : Array α) : (pickOrder nx xs).toList.Perm xs.toList := by
  have := pick_go nx xs.size 0 xs.toList #[] (by simp)
  simpa [pickOrder] using this
theorem byText {Q : Bool → Shared → Prop} (h : Q (w.params.followText "set-order") s) : wpAny (model prog w) A setsByText Q E s := by
  unfold setsByText
  exact wpAny_bind (wpAny_askSetting (wpAny_pure h))
theorem next_text {sl g : Nat} {Q : Option (Value × Nat) → Shared → Prop} (hS : Still s.heap S o es ep t) (hb : w.params.followText "set-order" = true) (h : Q (((pickOrder (w.params.setOrder S ep) es)[g]?).map fun e => (e.2, sl)) s) : wpAny (model prog w) A (setNext S sl g ep) Q E s := by
  unfold setNext
  refine wpAny_bind (wpAny_setState_of hS.ob hS.da hS.fit (wpAny_bind (byText ?_)))
  rw [hb]
  simp only [if_true, bne_self_eq_false, Bool.false_eq_true, if_false]
  unfold setWalk
  refine wpAny_bind (wpAny_bind (wpAny_setState_of hS.ob hS.da hS.fit (wpAny_bind (byText ?_))))
  rw [hb]
  simp only [if_true]
  exact wpAny_bind (wpAny_askSetting (wpAny_pure (wpAny_pure h)))
theorem next_few {sl g : Nat} {Q : Option (Value × Nat) → Shared → Prop} (hS : Still s.heap S o es ep t) (hb : w.params.followText "set-order" = false) (hl : t.led = true) (hz : es.size ≤ 1)
    (h : Q (match es[SetTable.below t.place sl]?, t.place[SetTable.below t.place sl]? with | some (_, x), some j => some (x, j + 1) | _, _ => none) s) : wpAny (model prog w) A (setNext S sl g ep) Q E s := by
  unfold setNext
  refine wpAny_bind (wpAny_setState_of hS.ob hS.da hS.fit (wpAny_bind (byText ?_)))
  rw [hb]
  dsimp only
  rw [if_neg Bool.false_ne_true]
  refine wpAny_ite_split (fun hab => ?_) (fun _ => wpAny_bind ?_)
  · have hab : (!t.plain && decide (es.size > 1)) = true := hab
    rw [decide_eq_false (by omega), Bool.and_false] at hab
    cases hab
  · show wpAny _ _ (if (!t.led && !es.isEmpty) = true then _ else _) _ _ _
    rw [hl, if_neg (by simp)]
    exact wpAny_pure (wpAny_pure h)
/-- one item, by a number -/
theorem item_a {sl nx : Nat} {v : Value} {Q : Option Value → Shared → Prop} (hit : s.heap.get? I = some (itO (rawInt sl) i S es.size ep)) (hS : Still s.heap S o es ep t)
    (hn : ∀ Q' : Option (Value × Nat) → Shared → Prop, Q' (some (v, nx)) s → ∀ E', wpAny (model prog w) A.in1 (setNext S sl i ep) Q' E' s)
    (hQ : ∀ h', h'.get? I = some (itO (rawInt nx) (i + 1) S es.size ep) → Heap.SameBut I s.heap h' → Q (some v) { s with heap := h' }) : wpAny (model prog w) A (pyNext (.ref I)) Q E s := by
  refine next_of ⟨_, hit, rfl⟩ ?_
  unfold Builtin.«set_iterator.__next__»
  refine wpAny_bind (wpAny_of_eq (a := (Value.ref I, [])) rfl (wpAny_bind (wpAny_fieldsOf hit rfl ?_)))
  dsimp only
  refine wpAny_bind (wpAny_setEntries_of hS.ob hS.da hS.fit ?_)
  rw [if_neg (by simp)]
  refine wpAny_bind (show wpAny _ _ (setNext S ((sl : Int)).toNat ((i : Int)).toNat ((ep : Int)).toNat) _ _ _ from ?_)
  simp only [Int.toNat_natCast]
  refine hn _ ?_ _
  dsimp only
  refine wpAny_bind (wpAny_setField hit rfl (by simp) ?_)
  have g1 := Heap.get?_update_self (Obj.mapFields fun z => z.setIfInBounds 0 (rawInt (nx : Int))) hit rfl
  refine wpAny_bind (wpAny_setField g1 rfl (by simp) ?_)
  have g2 := Heap.get?_update_self (Obj.mapFields fun z => z.setIfInBounds 1 (rawInt ((i : Int) + 1))) g1 rfl
  exact wpAny_pure ⟨v, rfl, hQ _ g2 ((Heap.SameBut.update ..).trans (Heap.SameBut.update ..))⟩
theorem done_a {sl : Nat} {Q : Option Value → Shared → Prop} (hh : A.handled = none) (hit : s.heap.get? I = some (itO (rawInt sl) i S es.size ep)) (hS : Still s.heap S o es ep t)
    (hn : ∀ Q' : Option (Value × Nat) → Shared → Prop, Q' none s → ∀ E', wpAny (model prog w) A.in1 (setNext S sl i ep) Q' E' s)
    (hQ : ∀ h', Heap.ExtBut I s.heap h' → Q none { s with heap := h' }) : wpAny (model prog w) A (pyNext (.ref I)) Q E s := by
  refine next_of ⟨_, hit, rfl⟩ ?_
  unfold Builtin.«set_iterator.__next__»
  refine wpAny_bind (wpAny_of_eq (a := (Value.ref I, [])) rfl (wpAny_bind (wpAny_fieldsOf hit rfl ?_)))
  dsimp only
  refine wpAny_bind (wpAny_setEntries_of hS.ob hS.da hS.fit ?_)
  rw [if_neg (by simp)]
  refine wpAny_bind (show wpAny _ _ (setNext S ((sl : Int)).toNat ((i : Int)).toNat ((ep : Int)).toNat) _ _ _ from ?_)
  simp only [Int.toNat_natCast]
  refine hn _ ?_ _
  dsimp only
  refine wpAny_bind (wpAny_setField hit rfl (by simp) ?_)
  refine wpAny_mono (next_stop I hh _ _) (fun _ _ z => z) ?_
  rintro e s' ⟨h', x1, rfl, x3⟩
  exact ⟨x3, hQ h' ((Heap.SameBut.update ..).extBut.trans x1)⟩
/-- one item, drawn -/
theorem item_b {T : Addr} {ps : Array Value} {pn j : Nat} {tk : Tok} {e : Int × Value} {Q : Option Value → Shared → Prop} (hit : s.heap.get? I = some (itO (.ref T) i S es.size ep)) (hS : Still s.heap S o es ep t) {oT : Obj} (hT : s.heap.get? T = some oT) (hTd : oT.data = .seq ps pn)
    (hp : ps[i]? = some (.int (j : Int) tk)) (he : es[j]? = some e) (hQ : ∀ h', h'.get? I = some (itO (.ref T) (i + 1) S es.size ep) → Heap.SameBut I s.heap h' → Q (some e.2) { s with heap := h' }) : wpAny (model prog w) A (pyNext (.ref I)) Q E s := by
  refine next_of ⟨_, hit, rfl⟩ ?_
  unfold Builtin.«set_iterator.__next__»
  refine wpAny_bind (wpAny_of_eq (a := (Value.ref I, [])) rfl (wpAny_bind (wpAny_fieldsOf hit rfl ?_)))
  dsimp only
  refine wpAny_bind (wpAny_setEntries_of hS.ob hS.da hS.fit ?_)
  rw [if_neg (by simp)]
  refine wpAny_bind (m := seqItems? (.ref T)) (wpAny_seqItems hT hTd ?_)
  simp only [Int.toNat_natCast]
  rw [hp]
  dsimp only
  unfold setNextDrawn
  refine wpAny_bind (wpAny_bind (wpAny_setState_of hS.ob hS.da hS.fit ?_))
  simp only [Int.toNat_natCast, bne_self_eq_false, Bool.false_eq_true, if_false]
  rw [he]
  refine wpAny_pure (wpAny_bind (wpAny_setField hit rfl (by simp) ?_))
  have g1 := Heap.get?_update_self (Obj.mapFields fun z => z.setIfInBounds 1 (rawInt ((i : Int) + 1))) hit rfl
  exact wpAny_pure ⟨_, rfl, hQ _ g1 (Heap.SameBut.update ..)⟩
theorem done_b {T : Addr} {ps : Array Value} {pn : Nat} {Q : Option Value → Shared → Prop} (hh : A.handled = none) (hit : s.heap.get? I = some (itO (.ref T) i S es.size ep)) (hS : Still s.heap S o es ep t) {oT : Obj} (hT : s.heap.get? T = some oT) (hTd : oT.data = .seq ps pn)
    (hp : ps[i]? = none) (hQ : ∀ h', Heap.ExtBut I s.heap h' → Q none { s with heap := h' }) : wpAny (model prog w) A (pyNext (.ref I)) Q E s := by
  refine next_of ⟨_, hit, rfl⟩ ?_
  unfold Builtin.«set_iterator.__next__»
  refine wpAny_bind (wpAny_of_eq (a := (Value.ref I, [])) rfl (wpAny_bind (wpAny_fieldsOf hit rfl ?_)))
  dsimp only
  refine wpAny_bind (wpAny_setEntries_of hS.ob hS.da hS.fit ?_)
  rw [if_neg (by simp)]
  refine wpAny_bind (m := seqItems? (.ref T)) (wpAny_seqItems hT hTd ?_)
  simp only [Int.toNat_natCast]
  rw [hp]
  dsimp only
  refine wpAny_bind (wpAny_setField hit rfl (by simp) ?_)
  have g1 := Heap.get?_update_self (Obj.mapFields fun z => z.setIfInBounds 0 (rawInt 0)) hit rfl
  refine wpAny_bind (wpAny_setField g1 rfl (by simp) ?_)
  refine wpAny_mono (next_stop I hh _ _) (fun _ _ z => z) ?_
  rintro e s' ⟨h', x1, rfl, x3⟩
  exact ⟨x3, hQ h' (((Heap.SameBut.update ..).trans (Heap.SameBut.update ..)).extBut.trans x1)⟩
end Sv

set_option Elab.async false
set_option linter.all false
set_option maxRecDepth 100000
set_option maxHeartbeats 4000000
namespace Sv
open PySem PyProof.Rows
variable {prog : Program} {w : World} {A : Around} {E : Value → Shared → Prop} {s : Shared}
variable {I S : Addr} {o : Obj} {es : Array (Int × Value)} {ep i : Nat} {t : SetTable}
theorem slot_sii : Slot "set_iterator" "__iter__" "set_iterator.__iter__" := .of (owner := "set_iterator") (n := "__iter__") (by rw [typeLookup_type, builtinLookup_eq_fast]; kernel_rfl) (by decide +kernel) (by decide +kernel) (by decide +kernel) (by first | exact .inl (by decide +kernel) | exact .inr (by decide +kernel)) (by rw [isSubtype_type]; kernel_rfl)
theorem args_sii (a : Value) : argsOk "set_iterator.__iter__" ⟨[a], []⟩ := by
  unfold argsOk
  rw [signature?_of (id := "set_iterator.__iter__") (n := ['_', '_', 'r', 'e', 't', 'i', '_', '_']) (o := ['r', 'o', 't', 'a', 'r', 'e', 't', 'i', '_', 't', 'e', 's']) (by kernel_rfl) own_si]
  kernel_rfl
theorem entry_sii : entryFor table "set_iterator.__iter__" = some Builtin.«dict_keyiterator.__iter__» := entryFor_alias (id' := "dict_keyiterator.__iter__") (by kernel_rfl) (by first | rfl | decide +kernel | (unfold String.splitOn; simp +decide [String.splitOnAux])) (by decide +kernel) (by kernel_rfl)
theorem self_si {Q : Value → Shared → Prop} (hT : s.TypeIs (.ref I) "set_iterator") (h : Q (.ref I) s) : wpAny (model prog w) A (pyIter (.ref I)) Q E s :=
  wpAny_pyIter_slot hT slot_sii (wpAny_call_entry slot_sii hT entry_sii (show wpAny _ _ (ret (.ref I)) _ _ s from wpAny_pure ⟨_, rfl, "set_iterator", _, hT, slot_si.lookup, h⟩) (args_sii _))
theorem Still.at {h h' : Heap} (x : Still h S o es ep t) (e : ∀ o, h.get? S = some o → h'.get? S = some o) : Still h' S o es ep t := ⟨e _ x.ob, x.ex, x.da, x.fit⟩
/-- by the world's text -/
theorem walks_text (hh : A.handled = none) (hne : S ≠ I) (hb : w.params.followText "set-order" = true) : Walks prog w A I [I, S] [I] ((pickOrder (w.params.setOrder S ep) es).toList.map (·.2)).length (fun i v => ((pickOrder (w.params.setOrder S ep) es).toList.map (·.2))[i]? = some v)
    (fun i h => Still h S o es ep t ∧ h.get? I = some (itO (rawInt 0) i S es.size ep)) where
  sub := fun b hb => by simp at hb; simp [hb]
  frame := fun _ _ _ x hk => ⟨x.1.at fun o e => hk S (by simp) o e, hk I (by simp) _ x.2⟩
  item := fun i s Q E hi x hQ => by
    rw [List.length_map] at hi
    obtain ⟨e, he⟩ : ∃ e, (pickOrder (w.params.setOrder S ep) es).toList[i]? = some e := ⟨_, List.getElem?_eq_getElem hi⟩
    refine item_a (sl := 0) (nx := 0) (v := e.2) x.2 x.1 (fun Q' q E' => next_text x.1 hb ?_) fun h' h1 h2 => hQ _ h' s.toks (by rw [List.getElem?_map, he]; rfl) ⟨x.1.at fun o e => (h2.2 S hne).trans e, h1⟩ fun b o hb' e => (h2.2 b (by simpa using hb')).trans e
    rw [← Array.getElem?_toList, he]
    exact q
  done := fun s Q E x hQ => by
    refine done_a (sl := 0) hh x.2 x.1 (fun Q' q E' => next_text x.1 hb ?_) fun h' h1 => hQ h' s.toks fun b o hb' e => h1 b o (by simpa using hb') e
    rw [← Array.getElem?_toList, List.getElem?_eq_none (by rw [List.length_map]; exact Nat.le_refl _)]
    exact q
  self := fun _ _ _ _ x hQ => self_si ⟨_, x.2, rfl⟩ hQ
/-- one at most -/
theorem walks_few (hh : A.handled = none) (hne : S ≠ I) (hb : w.params.followText "set-order" = false) (hl : t.led = true) (hz : es.size ≤ 1) (hf : t.fits es.size = true) : Walks prog w A I [I, S] [I] (es.toList.map (·.2)).length (fun i v => (es.toList.map (·.2))[i]? = some v)
    (fun i h => Still h S o es ep t ∧ ∃ sl : Nat, h.get? I = some (itO (rawInt sl) i S es.size ep) ∧ SetTable.below t.place sl = i) where
  sub := fun b hb => by simp at hb; simp [hb]
  frame := fun _ _ _ x hk => ⟨x.1.at fun o e => hk S (by simp) o e, by obtain ⟨sl, e, z⟩ := x.2; exact ⟨sl, hk I (by simp) _ e, z⟩⟩
  item := fun i s Q E hi x hQ => by
    obtain ⟨x1, sl, x2, x3⟩ := x
    rw [List.length_map, Array.length_toList] at hi
    have hps : t.place.size = es.size := by
      unfold SetTable.fits at hf
      simp at hf
      exact hf.1
    have hi0 : i = 0 := by omega
    subst hi0
    have h1 : es.size = 1 := by omega
    obtain ⟨e, he⟩ : ∃ e, es[0]? = some e := ⟨_, getElem?_pos es 0 (by omega)⟩
    obtain ⟨j, hj⟩ : ∃ j, t.place[0]? = some j := ⟨_, getElem?_pos t.place 0 (by omega)⟩
    have hbl : SetTable.below t.place (j + 1) = 0 + 1 := by
      have hp1 : t.place.size = 1 := by omega
      unfold SetTable.below
      rw [hp1]
      have hg : t.place.getD 0 (j + 1) = j := by rw [Array.getD_eq_getD_getElem?, hj]; rfl
      simp [SetTable.below.go, hg]
    refine item_a (sl := sl) (nx := j + 1) (v := e.2) x2 x1 (fun Q' q E' => next_few x1 hb hl hz ?_) fun h' h1 h2 => hQ _ h' s.toks (by rw [List.getElem?_map, Array.getElem?_toList, he]; rfl) ⟨x1.at fun o e => (h2.2 S hne).trans e, j + 1, h1, hbl⟩ fun b o hb' e => (h2.2 b (by simpa using hb')).trans e
    rw [x3, he, hj]
    exact q
  done := fun s Q E x hQ => by
    obtain ⟨x1, sl, x2, x3⟩ := x
    refine done_a (sl := sl) hh x2 x1 (fun Q' q E' => next_few x1 hb hl hz ?_) fun h' h1 => hQ h' s.toks fun b o hb' e => h1 b o (by simpa using hb') e
    rw [x3, Array.getElem?_eq_none (by rw [List.length_map, Array.length_toList]; exact Nat.le_refl _)]
    exact q
  self := fun _ _ _ _ x hQ => by
    obtain ⟨x1, sl, x2, x3⟩ := x
    exact self_si ⟨_, x2, rfl⟩ hQ
/-- drawn -/
theorem walks_drawn {T : Addr} {js : List Nat} {oT : Obj} {pn : Nat} (hh : A.handled = none) (hne : S ≠ I) (hTI : T ≠ I) (hd : oT.data = .seq (js.map fun j : Nat => rawInt (j : Int)).toArray pn) (hjs : ∀ j ∈ js, j < es.size) :
    Walks prog w A I [I, S, T] [I] (js.filterMap fun j => (es[j]?).map (·.2)).length (fun i v => (js.filterMap fun j => (es[j]?).map (·.2))[i]? = some v) (fun i h => Still h S o es ep t ∧ h.get? I = some (itO (.ref T) i S es.size ep) ∧ h.get? T = some oT) := by
  have em : (js.filterMap fun j => (es[j]?).map (·.2)) = js.map fun j => (es.getD j (0, .none)).2 := by
    clear hd
    induction js with
    | nil => rfl
    | cons j js ih =>
      have hj := hjs j (.head _)
      rw [List.filterMap_cons, getElem?_pos es j hj, List.map_cons]
      show _ :: _ = _
      rw [ih fun k hk => hjs k (.tail _ hk), Array.getD_eq_getD_getElem?, getElem?_pos es j hj]
      rfl
  rw [em]
  refine ⟨fun b hb => by simp at hb; simp [hb], fun _ _ _ x hk => ⟨x.1.at fun o e => hk S (by simp) o e, hk I (by simp) _ x.2.1, hk T (by simp) _ x.2.2⟩, fun i s Q E hi x hQ => ?_, fun s Q E x hQ => ?_, fun _ _ _ _ x hQ => self_si ⟨_, x.2.1, rfl⟩ hQ⟩
  · rw [List.length_map] at hi
    have hj := hjs _ (List.getElem_mem hi)
    refine item_b (j := js[i]) (tk := 0) (e := es[js[i]]) x.2.1 x.1 x.2.2 hd (by simp [hi, rawInt]) (getElem?_pos es _ hj) fun h' h1 h2 => hQ _ h' s.toks ?_ ⟨x.1.at fun o e => (h2.2 S hne).trans e, h1, (h2.2 T hTI).trans x.2.2⟩ fun b o hb' e => (h2.2 b (by simpa using hb')).trans e
    rw [List.getElem?_map, List.getElem?_eq_getElem hi, Option.map_some, Array.getD_eq_getD_getElem?, getElem?_pos es _ hj]
    rfl
  · exact done_b hh x.2.1 x.1 x.2.2 hd (by simp) fun h' h1 => hQ h' s.toks fun b o hb' e => h1 b o (by simpa using hb') e
end Sv

set_option Elab.async false
set_option linter.all false
set_option maxRecDepth 100000
set_option maxHeartbeats 4000000
namespace Sv
open PySem PyProof.Rows
variable {prog : Program} {w : World} {A : Around} {E : Value → Shared → Prop} {s : Shared}
variable {I S : Addr} {es : Array (Int × Value)} {t : SetTable}
theorem draw_ok {α : Type} : ∀ (n : Nat) (xs : List α) (s : Shared) {Q : List α → Shared → Prop}, xs.length ≤ n → (∀ ys dr, ys.Perm xs → Q ys { s with drawn := dr }) → wpAny (model prog w) A (drawOrder n xs) Q E s
  | 0, xs, s, Q, h, hQ => by
    have : xs = [] := List.length_eq_zero_iff.mp (by omega)
    subst this
    exact wpAny_pure (hQ [] s.drawn .nil)
  | n + 1, [], s, Q, h, hQ => wpAny_pure (hQ [] s.drawn .nil)
  | n + 1, x :: xs, s, Q, h, hQ => by
    unfold drawOrder
    refine wpAny_bind (wpAny_choose (by simp) fun i hi => ?_)
    rw [List.getElem?_eq_getElem hi]
    refine wpAny_bind (draw_ok n _ _ (by rw [List.length_eraseIdx_of_lt hi]; simp at h ⊢; omega) fun ys dr hp => wpAny_pure (hQ _ dr ?_))
    refine (hp.cons _).trans ?_
    rw [List.eraseIdx_eq_take_drop_succ]
    have e : (x :: xs) = (x :: xs).take i ++ (x :: xs)[i] :: (x :: xs).drop (i + 1) := by rw [List.getElem_cons_drop, List.take_append_drop]
    conv => rhs; rw [e]
    exact (List.perm_middle (l₁ := (x :: xs).take i)).symm
theorem fm_map (es : Array (Int × Value)) : ∀ js : List Nat, (∀ j ∈ js, j < es.size) → (js.filterMap fun j => (es[j]?).map (·.2)) = js.map fun j => (es.getD j (0, .none)).2
  | [], _ => rfl
  | j :: js, h => by
    have hj := h j (.head _)
    rw [List.filterMap_cons, getElem?_pos es j hj, List.map_cons]
    show _ :: _ = _
    rw [fm_map es js fun k hk => h k (.tail _ hk), Array.getD_eq_getD_getElem?, getElem?_pos es j hj]
    rfl
theorem range_vals (es : Array (Int × Value)) : ((List.range es.size).filterMap fun j => (es[j]?).map (·.2)) = es.toList.map (·.2) := by
  rw [fm_map es _ fun j hj => List.mem_range.mp hj]
  apply List.ext_getElem
  · simp
  · intro i h1 h2
    have hi : i < es.size := by simpa using h2
    rw [List.getElem_map, List.getElem_map, List.getElem_range, Array.getD_eq_getD_getElem?, getElem?_pos es i hi, Array.getElem_toList]
    rfl
theorem iter_set {Q : Value → Shared → Prop} (so : SO prog w s.heap S es t) (hsz : es.size ≤ sizeLine)
    (hQ : ∀ (I : Addr) (fp : List Addr) (vs : List Value) (St : Nat → Heap → Prop) (h' : Heap) (dr : Drawn), (∀ b o, s.heap.get? b = some o → h'.get? b = some o) → s.heap.objs.size ≤ I → (∀ b ∈ fp, b = S ∨ s.heap.objs.size ≤ b) → s.heap.objs.size ≤ h'.objs.size → vs.Perm (es.toList.map (·.2)) →
      (∀ A' : Around, A'.handled = none → Walks prog w A' I fp [I] vs.length (fun i v => vs[i]? = some v) St) → St 0 h' → Q (.ref I) { s with heap := h', drawn := dr }) : wpAny (model prog w) A (pyIter (.ref S)) Q E s := by
  obtain ⟨⟨o, ep, ho, hex, hd⟩, el, fit, led, pl⟩ := so
  have hT : s.TypeIs (.ref S) "set" := ⟨o, ho, hex.1⟩
  have hlt := Heap.lt_size ho
  have st0 : Still s.heap S o es ep t := ⟨ho, hex, hd, fit⟩
  refine wpAny_pyIter_slot hT F.slot_set_iter (wpAny_call_entry F.slot_set_iter hT entry_it ?_ (F.args_set_iter_1 _))
  unfold Builtin.«frozenset.__iter__»
  refine wpAny_bind (m := Builtin.Frozenset.slot0 "__iter__" _) (wpAny_of_eq (a := S) rfl ?_)
  unfold Builtin.Frozenset.sizeOf
  refine wpAny_bind (wpAny_bind (wpAny_setEntries_of ho hd fit (wpAny_pure ?_)))
  unfold setDrawn
  refine wpAny_bind (wpAny_bind (wpAny_setState_of ho hd fit (wpAny_bind (byText (wpAny_pure ?_)))))
  dsimp only
  have fin : ∀ (f : Value) (s1 : Shared) (Q' : Fin → Shared → Prop), (∀ ob, ob = itO f 0 S es.size ep → ∀ s2, s2 = { s1 with heap := s1.heap.push ob } → Q' (.done (.ret (.ref s1.heap.objs.size))) s2) → s1.heap.get? S = some o → wpAny (model prog w) A.in1 (do
      let e ← setEpoch S
      let v ← newFields "set_iterator" [f, rawInt 0, .ref S, rawInt es.size, rawInt e]
      ret v) Q' E s1 := fun f s1 Q' hq h1 => by
    refine wpAny_bind (wpAny_setEpoch_of h1 hd fit (wpAny_bind (wpAny_newObj_type (wpAny_pure (hq _ rfl _ rfl)))))
  cases hb : w.params.followText "set-order" with
  | true =>
    rw [if_neg (by simp)]
    refine wpAny_bind (wpAny_pure (fin _ s _ (fun ob hob s2 hs2 => ?_) ho))
    subst hob hs2
    refine ⟨_, rfl, "set_iterator", _, ⟨_, Heap.get?_push_size _ rfl, rfl⟩, slot_si.lookup, hQ s.heap.objs.size [s.heap.objs.size, S] _ _ _ s.drawn (fun b o e => Heap.get?_push_of_some _ e) (Nat.le_refl _) (fun b hb => ?_) (by rw [Heap.size_push]; exact Nat.le_succ _) ?_ (fun A' hA => walks_text hA (Nat.ne_of_lt hlt) hb) ⟨st0.at fun o e => Heap.get?_push_of_some _ e, Heap.get?_push_size _ rfl⟩⟩
    · simp at hb
      rcases hb with rfl | rfl
      · exact .inr (Nat.le_refl _)
      · exact .inl rfl
    · exact (pick_perm _ es).map _
  | false =>
    have hled : t.led = true := by rw [led, hb]; rfl
    rcases Nat.lt_or_ge 1 es.size with hz | hz
    · have hdr : (!false && (!t.plain && decide (es.size > 1))) = true := by rw [pl (by omega), decide_eq_true hz]; rfl
      refine wpAny_ite_split (fun _ => ?_) (fun hab => absurd hdr hab)
      refine wpAny_bind (draw_ok es.size (List.range es.size) s (by simp) fun js dr hp => ?_)
      have hjl : js.length = es.size := by rw [hp.length_eq, List.length_range]
      have hjs : ∀ j ∈ js, j < es.size := fun j hj => List.mem_range.mp (hp.mem_iff.mp hj)
      refine wpAny_bind (wpAny_newTuple ?_ (by rw [List.length_map, hjl]; exact hsz))
      refine fin _ { s with heap := s.heap.push (seqObj "tuple" (js.map fun j : Nat => rawInt (j : Int)).toArray 0), drawn := dr } _ (fun ob hob s2 hs2 => ?_) (Heap.get?_push_of_some _ ho)
      subst hob hs2
      have zp : (s.heap.push (seqObj "tuple" (js.map fun j : Nat => rawInt (j : Int)).toArray 0)).objs.size = s.heap.objs.size + 1 := by rw [Heap.size_push]
      have hT0 : (s.heap.push (seqObj "tuple" (js.map fun j : Nat => rawInt (j : Int)).toArray 0)).get? s.heap.objs.size = some (seqObj "tuple" (js.map fun j : Nat => rawInt (j : Int)).toArray 0) := Heap.get?_push_size _ rfl
      refine ⟨_, rfl, "set_iterator", _, ⟨_, Heap.get?_push_size _ rfl, rfl⟩, slot_si.lookup, hQ (s.heap.push (seqObj "tuple" (js.map fun j : Nat => rawInt (j : Int)).toArray 0)).objs.size [_, S, s.heap.objs.size] _ _ _ dr (fun b o e => Heap.get?_push_of_some _ (Heap.get?_push_of_some _ e)) (by rw [zp]; exact Nat.le_succ _) (fun b hb => ?_) (by rw [Heap.size_push, zp]; exact Nat.le_trans (Nat.le_succ _) (Nat.le_succ _)) ?_
        (fun A' hA => walks_drawn (T := s.heap.objs.size) (js := js) hA (by rw [zp]; exact Nat.ne_of_lt (Nat.lt_succ_of_lt hlt)) (by rw [zp]; exact Nat.ne_of_lt (Nat.lt_succ_self _)) (oT := seqObj "tuple" (js.map fun j : Nat => rawInt (j : Int)).toArray 0) rfl hjs)
        ⟨st0.at fun o e => Heap.get?_push_of_some _ (Heap.get?_push_of_some _ e), Heap.get?_push_size _ rfl, Heap.get?_push_of_some _ hT0⟩⟩
      · simp at hb
        rcases hb with rfl | rfl | rfl
        · exact .inr (Nat.le_succ _)
        · exact .inl rfl
        · exact .inr (Nat.le_refl _)
      · rw [← range_vals]
        exact hp.filterMap _
    · refine wpAny_ite_split (fun hab => ?_) (fun _ => ?_)
      · have hab : (!false && (!t.plain && decide (es.size > 1))) = true := hab
        rw [decide_eq_false (by omega)] at hab
        simp at hab
      refine wpAny_bind (wpAny_pure (fin _ s _ (fun ob hob s2 hs2 => ?_) ho))
      subst hob hs2
      have hps : t.place.size = es.size := by
        unfold SetTable.fits at fit
        simp at fit
        exact fit.1
      refine ⟨_, rfl, "set_iterator", _, ⟨_, Heap.get?_push_size _ rfl, rfl⟩, slot_si.lookup, hQ s.heap.objs.size [s.heap.objs.size, S] _ _ _ s.drawn (fun b o e => Heap.get?_push_of_some _ e) (Nat.le_refl _) (fun b hb => ?_) (by rw [Heap.size_push]; exact Nat.le_succ _) .rfl (fun A' hA => walks_few hA (Nat.ne_of_lt hlt) hb hled hz fit) ⟨st0.at fun o e => Heap.get?_push_of_some _ e, 0, Heap.get?_push_size _ rfl, ?_⟩⟩
      · simp at hb
        rcases hb with rfl | rfl
        · exact .inr (Nat.le_refl _)
        · exact .inl rfl
      · unfold SetTable.below
        rcases Nat.eq_zero_or_pos es.size with h0 | h0
        · rw [hps, h0]
          rfl
        · rw [hps, show es.size = 1 by omega]
          simp [SetTable.below.go]
end Sv

set_option Elab.async false
set_option linter.all false
set_option maxRecDepth 100000
set_option maxHeartbeats 4000000
namespace Sv
open PySem PyProof.Rows
variable {prog : Program} {w : World} {A : Around} {E : Value → Shared → Prop} {s : Shared}
variable {I S : Addr} {es : Array (Int × Value)} {t : SetTable}
theorem hint_set {Q : Bool → Shared → Prop} (hT : s.TypeIs (.ref S) "set") (h : Q false s) : wpAny (model prog w) A (Builtin.List.listLengthHint (.ref S)) Q E s := by
  unfold Builtin.List.listLengthHint
  refine wpAny_bind (wpAny_specialOf hT F.slot_set_len.lookup ?_)
  generalize hid : ("set.__len__" : String) = id0
  wp_delta
  rw [show splitId id0 = some ("set", "__len__") from by subst hid; decide +kernel]
  subst hid
  refine wpAny_bind (wpAny_isInstance (T := "set") (b := true) hT (by rw [isSubtype_type]; kernel_rfl) (wpAny_ite_split (fun hab => absurd hab (by decide)) fun _ => ?_))
  exact wpAny_ite_split (fun _ => wpAny_bind (wpAny_typeOf hT (wpAny_pure h))) fun hab => absurd (by decide +kernel) hab
theorem collect_set {Q : List Value → Shared → Prop} (hh : A.handled = none) (so : SO prog w s.heap S es t) (hsz : es.size ≤ sizeLine)
    (hQ : ∀ (s' : Shared) (acc : List Value), (∀ b o, s.heap.get? b = some o → s'.heap.get? b = some o) → s'.gens = s.gens → s'.os = s.os → acc.Perm (es.toList.map (·.2)) → Q acc s') : wpAny (model prog w) A (collect (.ref S)) Q E s := by
  have hlt : S < s.heap.objs.size := by
    obtain ⟨o, ep, ho, _⟩ := so.ex
    exact Heap.lt_size ho
  unfold collect
  refine wpAny_bind (wpAny_runValue (codeAny_builtin F.entry_proto_collect ?_))
  rw [Around.under_plainId F.plain_proto_collect _]
  refine wpAny_bind (m := newList []) (wpAny_newObj_type (wpAny_pure ⟨plainId_quiet F.plain_list_iadd _, codeAny_builtin F.entry_list_iadd ?_⟩))
  rw [Around.under_plainId F.plain_list_iadd _]
  show wpAny _ A.in1 (Builtin.List.listExtendWith (.ref s.heap.objs.size) (.ref S) (.ref s.heap.objs.size)) _ _ _
  unfold Builtin.List.listExtendWith
  generalize hH : s.heap.push { cls := .type "list", data := .seq ([] : List Value).toArray } = H
  have kH : ∀ b o, s.heap.get? b = some o → H.get? b = some o := fun b o e => by rw [← hH]; exact Heap.get?_push_of_some _ e
  have hL : H.get? s.heap.objs.size = some { cls := .type "list", data := .seq ([] : List Value).toArray } := by rw [← hH]; exact Heap.get?_push_size _ rfl
  have hHz : H.objs.size = s.heap.objs.size + 1 := by rw [← hH, Heap.size_push]
  have soH : SO prog w H S es t := so.at fun o e => kH S o e
  have hTH : Shared.TypeIs { s with heap := H } (.ref S) "set" := by
    obtain ⟨o, ep, ho, hex, _⟩ := soH.ex
    exact ⟨o, ho, hex.1⟩
  refine wpAny_bind (wpAny_typeOf (T := "set") hTH ?_)
  have e1 : Builtin.List.listSameRef (.ref s.heap.objs.size) (.ref S) = false := by simp [Builtin.List.listSameRef, Nat.ne_of_gt hlt]
  have e2 : (Value.type "set" == Value.type "list") = false := by decide
  have e3 : (Value.type "set" == Value.type "tuple") = false := by decide
  simp only [e1, e2, e3, Bool.or_false, Bool.false_eq_true, if_false]
  refine wpAny_bind (iter_set (s := { s with heap := H }) soH hsz fun I fp vs St h1 dr k1 hI hfp hz1 pv W st => ?_)
  have hL1 : h1.get? s.heap.objs.size = some { cls := .type "list", data := .seq ([] : List Value).toArray } := k1 _ _ hL
  have hSf : s.heap.objs.size ∉ fp := fun hm => by
    rcases hfp _ hm with h | h
    · exact absurd h (Nat.ne_of_gt hlt)
    · have h : H.objs.size ≤ s.heap.objs.size := h
      omega
  have hT1 : Shared.TypeIs { s with heap := h1, drawn := dr } (.ref S) "set" := by
    obtain ⟨o, ho, hc⟩ := hTH
    exact ⟨o, k1 _ _ ho, hc⟩
  refine wpAny_bind (wpAny_holding (hint_set hT1 ?_))
  have vl : vs.length ≤ sizeLine := by rw [pv.length_eq, List.length_map, Array.length_toList]; exact hsz
  have key : ∀ (h : Heap) (c tk : Nat), St 0 h → (∀ b o, s.heap.get? b = some o → h.get? b = some o) → h.get? s.heap.objs.size = some { cls := .type "list", data := .seq #[] c } →
      codeAny (model prog w) A (.builtin "list.extend.loop" ⟨[.ref s.heap.objs.size, .ref I, .ref s.heap.objs.size], []⟩) (wants (fun v s' => ∃ acc c', v = .ref s.heap.objs.size ∧ s'.heap.get? s.heap.objs.size = some { cls := .type "list", dict := none, data := .seq acc c', slots := #[] } ∧ acc.toList = vs ∧ s'.gens = s.gens ∧ s'.os = s.os ∧ ∀ b o, s.heap.get? b = some o → s'.heap.get? b = some o) E) { s with heap := h, drawn := dr, toks := tk } := fun h c tk hst hk hl => by
    refine codeAny_extend_loopS (W A.in1 hh).toS vl _ hSf _ vs.length 0 _ #[] c rfl (Nat.zero_le _) hst hl (ItemsOf.nil _) fun s' acc c' hm hS' ha => ⟨acc, c', rfl, hS', ?_, hm.gens, hm.os, fun b o e => hm.heap b o (fun hb => ?_) (hk b o e)⟩
    · apply List.ext_getElem
      · rw [Array.length_toList]; exact ha.1
      · intro i g1 g2
        have this : vs[i]? = some acc[i] := ha.2 i acc[i] (by simpa using g1)
        rw [List.getElem?_eq_getElem g2] at this
        rw [Array.getElem_toList]
        exact (Option.some.inj this).symm
    · have hlb := Heap.lt_size e
      rcases List.mem_cons.mp hb with h | h
      · exact absurd hlb (h ▸ Nat.lt_irrefl _)
      · rw [List.mem_singleton.mp h] at hlb
        have hI' : H.objs.size ≤ I := hI
        rw [hHz] at hI'
        exact absurd hlb (Nat.not_lt.mpr (Nat.le_of_succ_le hI'))
  have leave : ∀ (r : Result) (s' : Shared), wants (fun v s' => ∃ acc c', v = .ref s.heap.objs.size ∧ s'.heap.get? s.heap.objs.size = some { cls := .type "list", dict := none, data := .seq acc c', slots := #[] } ∧ acc.toList = vs ∧ s'.gens = s.gens ∧ s'.os = s.os ∧ ∀ b o, s.heap.get? b = some o → s'.heap.get? b = some o) E r s' →
      wants (fun v s' => wpAny (model prog w) A (match v with | .ref a => (load a >>= fun ob => match ob.data with | .seq xs _ => pure xs.toList | _ => unsupported "internal:collect" : Sem (List Value)) | _ => unsupported "internal:collect") Q E s') E r s' := fun r s' hr => by
    cases r with
    | error e => exact hr
    | ok fl =>
      cases fl with
      | ret v =>
        obtain ⟨acc, c', rfl, g1, g2, g3, g4, g5⟩ := hr
        refine wpAny_bind (wpAny_load g1 (wpAny_pure ?_))
        rw [g2]
        exact hQ s' vs g5 g3 g4 pv
      | _ => exact hr.elim
  refine wpAny_ite_split (fun _ => ?_) (fun _ => wpAny_pure ⟨plainId_quiet F.plain_extend_loop _, codeAny_mono (key h1 0 s.toks st (fun b o e => k1 b o (kH b o e)) hL1) leave⟩)
  refine wpAny_bind (wpAny_rule (wpAny_bind ?_))
  show wpAny _ _ (updateSeq s.heap.objs.size (·.push .none) >>= fun _ => updateSeq s.heap.objs.size (·.pop)) _ _ _
  refine wpAny_bind (wpAny_updateSeq hL1 rfl ?_)
  have u1 := Heap.get?_update_self (Obj.mapSeq (·.push Value.none)) hL1 rfl
  refine wpAny_updateSeq (hz := by seq_fits) u1 rfl ?_
  have u2 := Heap.get?_update_self (Obj.mapSeq (·.pop)) u1 rfl
  have oth : ∀ b o, b ≠ s.heap.objs.size → h1.get? b = some o → ((h1.update s.heap.objs.size (Obj.mapSeq (·.push Value.none))).update s.heap.objs.size (Obj.mapSeq (·.pop))).get? b = some o := fun b o hb e => (Heap.get?_update_other _ _ (Ne.symm hb)).trans ((Heap.get?_update_other _ _ (Ne.symm hb)).trans e)
  refine wpAny_pure ⟨plainId_quiet F.plain_extend_loop _, codeAny_mono (key _ _ s.toks ((W A hh).frame 0 _ _ st fun b hb o e => oth b o (fun z => hSf (z ▸ hb)) e) (fun b o e => oth b o (Nat.ne_of_lt (Heap.lt_size e)) (k1 b o (kH b o e))) u2) leave⟩
end Sv

set_option Elab.async false
set_option linter.all false
set_option maxRecDepth 100000
set_option maxHeartbeats 4000000
namespace L2
open PySem PySem.Spec PyProof.Rows Ti
/-- texts, rising -/
def srtS (xs : List Str) : List Str := xs.mergeSort fun x y => !bltS y x
theorem srtS_perm (xs : List Str) : (srtS xs).Perm xs := List.mergeSort_perm _ _
theorem srtS_up (xs : List Str) : (srtS xs).Pairwise fun x y => bltS y x = false := by
  have h := List.pairwise_mergeSort (le := fun x y : Str => !bltS y x) (fun a b c h1 h2 => by
    simp only [Bool.not_eq_true'] at *
    cases e : bltS c a with
    | false => rfl
    | true =>
      rcases bltS_nt (y := b) e with z | z
      · rw [z] at h2; cases h2
      · rw [z] at h1; cases h1) (fun a b => by
    cases e : bltS b a with
    | false => rfl
    | true =>
      cases e2 : bltS a b with
      | false => rfl
      | true => have := bltS_tr e e2; rw [bltS_irr] at this; cases this) xs
  exact h.imp fun z => by simpa using z
theorem srtS_uniq {xs ys : List Str} (p : ys.Perm xs) (u : ys.Pairwise fun x y => bltS y x = false) : ys = srtS xs :=
  List.Perm.eq_of_pairwise (fun a b _ _ h1 h2 => bltS_tot h2 h1) u (srtS_up xs) (p.trans (srtS_perm xs).symm)
theorem strs_mem : ∀ {vs : List Value} {ss : List Str}, StrsAre vs ss → (∀ v ∈ vs, ∃ x t, v = .str x t) ∧ vs.map txt = ss
  | _, _, .nil => ⟨fun v hv => by simp at hv, rfl⟩
  | _, _, .cons x t h => by
    obtain ⟨h1, h2⟩ := strs_mem h
    refine ⟨fun v hv => ?_, by rw [List.map_cons, h2]; rfl⟩
    rcases List.mem_cons.mp hv with rfl | hv
    · exact ⟨x, t, rfl⟩
    · exact h1 v hv
theorem strs_of : ∀ (l : List Keyed), (∀ p ∈ l, ∃ t, p.2 = .str (txt p.1) t) → StrsAre (l.map (·.2)) (l.map fun p => txt p.1)
  | [], _ => .nil
  | p :: l, h => by
    obtain ⟨t, e⟩ := h p (.head _)
    rw [List.map_cons, List.map_cons, e]
    exact .cons _ t (strs_of l fun q hq => h q (.tail _ hq))
theorem pairs_in {vs : List Value} {p : Keyed} (h : p ∈ (pairsOf vs).toList) : p.1 = p.2 ∧ p.1 ∈ vs := mem_zip_self (by rw [← pairsOf_toList]; exact h)
/-- what comes out of a sort of texts -/
theorem out_strs {vs : List Value} {ss : List Str} (hS : StrsAre vs ss) {out : Array Keyed} (hp : out.Perm (pairsOf vs)) (hs : Srt (rkS (pairsOf vs)) out 0 vs.length) : StrsAre (out.map (·.2)).toList (srtS ss) := by
  obtain ⟨h1, h2⟩ := strs_mem hS
  have hl := Array.perm_iff_toList_perm.mp hp
  have hm : ∀ p ∈ out.toList, p ∈ (pairsOf vs).toList := fun p hp' => hl.mem_iff.mp hp'
  have e : out.toList.map (fun p => txt p.1) = srtS ss := by
    refine srtS_uniq ?_ ?_
    · have := hl.map fun p : Keyed => txt p.1
      rw [pairsOf_toList] at this
      have e2 : (vs.zip vs).map (fun p : Keyed => txt p.1) = ss := by
        rw [← h2]
        clear this hl hm hs hp h1 h2 hS
        induction vs with
        | nil => rfl
        | cons v vs ih => rw [List.zip_cons_cons, List.map_cons, List.map_cons, ih]
      rw [e2] at this
      exact this
    · refine List.pairwise_map.mpr (List.pairwise_iff_getElem.mpr fun i j hi hj hij => ?_)
      have hi' : i < out.size := by simpa using hi
      have hj' : j < out.size := by simpa using hj
      have hn : out.size = vs.length := by rw [hp.size_eq, pairsOf_size]
      have := hs i j (Nat.zero_le _) (Nat.le_of_lt hij) (by omega)
      rw [kk_of (getElem?_pos out i hi'), kk_of (getElem?_pos out j hj')] at this
      have e3 : ltS out[j] out[i] = decide (rkS (pairsOf vs) out[j] < rkS (pairsOf vs) out[i]) := rank_ok (lt := ltS) (fun a => bltS_irr _) (fun a b c => bltS_tr) (fun a b c => bltS_nt) (hm _ (by simp))
      rw [Array.getElem_toList, Array.getElem_toList]
      show ltS out[j] out[i] = false
      rw [e3]
      exact decide_eq_false (by omega)
  rw [← e, Array.toList_map]
  refine strs_of _ fun p hp' => ?_
  obtain ⟨p1, p2⟩ := pairs_in (hm p hp')
  obtain ⟨x, t, e3⟩ := h1 _ p2
  exact ⟨t, by rw [← p1, e3]; rfl⟩
end L2

set_option Elab.async false
set_option linter.all false
set_option maxRecDepth 100000
set_option maxHeartbeats 4000000
namespace L2
open PySem PySem.Spec PyProof.Rows Ti Sv
/-- the state's draws don't matter -/
theorem Inv.drew {X : Cx} {pins : List (Addr × Obj)} {σ : St} {H : Hp} {s s' : Shared} (I : Inv X pins σ H s) (hh : s'.heap = s.heap) (hg : s'.gens = s.gens) (ho : s'.os = s.os) : Inv X pins σ H s' := by
  obtain ⟨h', g', d', t', o'⟩ := s'
  cases hh
  cases hg
  cases ho
  exact ⟨I.ok, I.os, I.bare, I.base, I.loc, I.cell, I.free, I.freeC, I.pin, I.hok, I.len⟩
def tSSet (te : TE) : TE := fun σ H Q => te σ H fun v H1 => ∃ x : Str, v = .str x ∧ x.cps.size < 64 ∧ ∀ (ys : List Str) (p : Addr), ys.Nodup → (∀ c, c ∈ ys ↔ ∃ d ∈ x.cps.toList, c = ⟨#[d]⟩) → (ys.Pairwise fun a b => bltS b a = false) → H1 p = none → Q (.ref p) (upd H1 p (.lst (ys.map V.str)))
/-- sorted(set(e)), e a text -/
theorem pe_sortSet {X : Cx} {e : Expr} {te : TE} {p p' pos pos' : Pos} (hc : X.calm = true) (hg : Gl X "sorted") (hm : X.mg "sorted" = none) (hg' : Gl X "set") (hm' : X.mg "set" = none) (he : PE X e te)
    (hs : starEach [.Call (.Name "set" p') [e] [] pos'] X.env = [(false, eval (.Call (.Name "set" p') [e] [] pos') X.env)] := by rfl) (hs' : starEach [e] X.env = [(false, eval e X.env)] := by rfl) :
    PE X (.Call (.Name "sorted" p) [.Call (.Name "set" p') [e] [] pos'] [] pos) (tSSet te) := by
  intro pins s σ H Q I h
  refine wpAny_Call_Name_kw (ld_blt I hg hm (show bootBuiltins "sorted" = some (.builtin "sorted") by decide +kernel) (PyProof.Rows.callWith_builtin1 (rest := []) ?_ hs rfl) (by decide) (by decide))
  rw [hs]
  refine show wpAny _ _ (spliced ((false, eval (.Call (.Name "set" p') [e] [] pos') X.env) :: [])) _ _ s from Calls.spliced_cons ?_
  refine wpAny_Call_Name_kw (ld_blt I hg' hm' (show bootBuiltins "set" = some (.type "set") by decide +kernel) (PyProof.Rows.callWith_type1 (rest := []) ?_ hs' rfl) (by decide) (by decide))
  rw [hs']
  refine show wpAny _ _ (spliced ((false, eval e X.env) :: [])) _ _ s from Calls.spliced_cons (thn (he pins s σ H _ I h) fun u s1 ⟨v, H1, I1, r1, x, ev, h64, q⟩ => Calls.spliced_nil ?_)
  subst ev
  obtain ⟨tk0, rfl⟩ := r1
  have hsb : x.cps.size + 1 < scanBound := by unfold scanBound; omega
  refine call_set_str (I1.ok.hd hc) hsb fun h2 tk es t k2 so ha => Calls.spliced_nil ?_
  have I2 : Inv X pins σ H1 { s1 with heap := h2, toks := tk } := I1.kept k2
  refine Calls.call_function_entry kind_sorted plain_sorted entry_sorted (args_sorted1 _) ?_
  unfold Builtin.«sorted»
  have ez : es.size ≤ sizeLine := by have := ha.sz; rw [sizeLine_eq]; omega
  refine wpAny_bind (m := checkCount "sorted" 1 1 _) (wpAny_pure (wpAny_bind (collect_set (A := X.A.in1) (s := { s1 with heap := h2, toks := tk }) (by show X.A.handled = none; exact I1.ok.hd hc) so ez fun s' acc k3 hgn hos pa => ?_)))
  have I3 : Inv X pins σ H1 s' := by
    have I3' : Inv X pins σ H1 { s1 with heap := s'.heap, toks := s'.toks } := I2.kept k3
    exact I3'.drew rfl hgn hos
  have el := so.el
  have hmem : ∀ v ∈ acc, ∃ y u, v = .str y u := fun v hv => by
    obtain ⟨e2, he2, rfl⟩ := List.mem_map.mp (pa.mem_iff.mp hv)
    obtain ⟨⟨k, hk, _⟩, _⟩ := el e2 he2
    obtain ⟨u2, e3⟩ := is_kS.mp hk
    exact ⟨k, u2, e3⟩
  have hS : StrsAre acc (acc.map txt) := by
    clear pa
    induction acc with
    | nil => exact .nil
    | cons v acc ih =>
      obtain ⟨y, u2, rfl⟩ := hmem v (.head _)
      exact .cons y u2 (ih fun w hw => hmem w (.tail _ hw))
  have hpt : (acc.map txt).Perm (es.toList.map tx) := by
    have := pa.map txt
    rw [List.map_map] at this
    exact this
  have hzl : acc.length ≤ sizeLine := by rw [pa.length_eq, List.length_map, Array.length_toList]; exact ez
  refine wpAny_bind (wpAny_newList ?_ hzl)
  have ob : (s'.heap.push (seqObj "list" acc.toArray 0)).get? s'.heap.objs.size = some (seqObj "list" acc.toArray 0) := Heap.get?_push_size _ rfl
  show wpAny _ _ _ _ _ { s' with heap := s'.heap.push (seqObj "list" acc.toArray 0) }
  refine wpAny_bind (wpAny_holding (wpAny_call_entry slot_list_sort ⟨_, ob, rfl⟩ entry_list_sort (list_sort_any (κ := oneType') (ρ := rkS (pairsOf acc)) (s := { s' with heap := s'.heap.push (seqObj "list" acc.toArray 0) }) ob hzl (fun h' _ hl2 Q' hq => ?_) (fun h' _ _ => rk_strs fun pp hpp => ?_) fun out hp so' => ⟨_, rfl, ?_⟩) (args_list_sort _)))
  · match acc, hS, hl2 with
    | [], _, hl2 => simp at hl2
    | [_], _, hl2 => simp at hl2
    | v₁ :: v₂ :: rest, hS, _ =>
      rw [keyKind_strs hS]
      exact wpAny_pure hq
  · obtain ⟨_, p2⟩ := pairs_in hpp
    exact hmem _ p2
  · refine wpAny_pure ⟨_, rfl, ?_⟩
    have ho := out_strs hS hp so'
    obtain ⟨e4, he4⟩ := sortedHeap_at (out := out.map (·.2)) ob
    have kk : ∀ b o, s'.heap.get? b = some o → (sortedHeap (s'.heap.push (seqObj "list" acc.toArray 0)) s'.heap.objs.size acc (out.map (·.2))).get? b = some o := fun b o z => by
      have l1 := Heap.lt_size z
      rw [sortedHeap_old (Nat.ne_of_lt l1) (by rw [size_push']; exact Nat.lt_succ_of_lt l1)]
      exact Heap.get?_push_of_some _ z
    have hlen : ((srtS (acc.map txt)).map V.str).length ≤ sizeLine := by rw [List.length_map, (srtS_perm _).length_eq, List.length_map]; exact hzl
    refine ⟨.ref s'.heap.objs.size, upd H1 s'.heap.objs.size (.lst ((srtS (acc.map txt)).map V.str)), I3.laid (t' := s'.toks) kk (Nat.le_refl _) ⟨hlen, (out.map (·.2)).toList, e4, vals_of_strs ho, by rw [Array.toArray_toList]; exact he4⟩, rfl, q _ _ ?_ (fun c => ?_) (srtS_up _) (I3.hok.fresh (Nat.le_refl _))⟩
    · exact ((srtS_perm _).trans hpt).nodup_iff.mpr ha.nd
    · rw [((srtS_perm _).trans hpt).mem_iff, ha.mem, List.take_of_length_le (by simp)]
end L2

set_option Elab.async false
set_option linter.all false
set_option maxRecDepth 100000
set_option maxHeartbeats 4000000
namespace Ht
open PySem PySem.SetTable
/-! ### a set's table: places found by halves -/
/-! ### the way of a probe: it hangs on the mask alone -/
/-! ### it comes by every slot -/
end Ht

set_option Elab.async false
set_option linter.all false
set_option maxRecDepth 100000
set_option maxHeartbeats 4000000
namespace Ht
open PySem PySem.SetTable
end Ht

set_option Elab.async false
set_option linter.all false
set_option maxRecDepth 100000
set_option maxHeartbeats 4000000
namespace Ht
open PySem PySem.SetTable
/-! ### a table laid anew -/
end Ht

set_option Elab.async false
set_option linter.all false
set_option maxRecDepth 100000
set_option maxHeartbeats 4000000
namespace Ht
open PySem PySem.SetTable
end Ht

set_option Elab.async false
set_option linter.all false
set_option maxRecDepth 100000
set_option maxHeartbeats 4000000
namespace Ht
open PySem PySem.SetTable PyProof.Rows L2
variable {prog : Program} {w : World} {A : Around} {E : Value → Shared → Prop} {s : Shared}
end Ht

set_option Elab.async false
set_option linter.all false
set_option maxRecDepth 100000
set_option maxHeartbeats 4000000
namespace Ht
open PySem PySem.SetTable PyProof.Rows L2
variable {prog : Program} {w : World} {A : Around} {E : Value → Shared → Prop} {s : Shared}
end Ht

set_option Elab.async false
set_option linter.all false
set_option maxRecDepth 100000
set_option maxHeartbeats 4000000
namespace Sv
open PySem PyProof.Rows
variable {prog : Program} {w : World} {A : Around} {E : Value → Shared → Prop} {s : Shared}
variable {I S : Addr} {es : Array (Int × Value)} {t : SetTable}
end Sv

set_option Elab.async false
set_option linter.all false
set_option maxRecDepth 100000
set_option maxHeartbeats 4000000
namespace Ht
open PySem PySem.SetTable PyProof.Rows L2 Sv
variable {prog : Program} {w : World} {A : Around} {E : Value → Shared → Prop} {s : Shared}
end Ht

set_option Elab.async false
set_option linter.all false
set_option maxRecDepth 100000
set_option maxHeartbeats 4000000
namespace Ht
open PySem PySem.SetTable PyProof.Rows L2 Sv
variable {prog : Program} {w : World} {A : Around} {E : Value → Shared → Prop} {s : Shared}
end Ht

set_option Elab.async false
set_option linter.all false
set_option maxRecDepth 100000
set_option maxHeartbeats 4000000
namespace Ti
open PySem PyProof.Rows L2
/-! ### pairs of texts, sorted, of any length -/
variable {prog : Program} {w : World} {A : Around} {E : Value → Shared → Prop} {s : Shared}
end Ti
namespace L2
open PySem PySem.Spec PyProof.Rows Ti Sv Ht
end L2

set_option Elab.async false
set_option linter.all false
set_option maxRecDepth 100000
set_option maxHeartbeats 4000000
namespace L2
open PySem PySem.Spec PyProof.Rows
/-! ### a dict comprehension -/
section
variable {X : Cx}
end
end L2

set_option Elab.async false
set_option linter.all false
set_option maxRecDepth 100000
set_option maxHeartbeats 4000000
namespace Ti
open PySem PyProof.Rows L2
variable {prog : Program} {w : World} {A : Around} {E : Value → Shared → Prop} {s : Shared}
/-! ### texts by their lengths -/
end Ti

set_option Elab.async false
set_option linter.all false
set_option maxRecDepth 100000
set_option maxHeartbeats 4000000
namespace L2
open PySem PySem.Spec PyProof.Rows Ti
section
variable {X : Cx}
end
end L2

set_option Elab.async false
set_option linter.all false
set_option maxRecDepth 100000
set_option maxHeartbeats 4000000
namespace L2
open PySem PySem.Spec PyProof.Rows
end L2

set_option Elab.async false
set_option linter.all false
set_option maxRecDepth 100000
set_option maxHeartbeats 4000000
namespace Ht
open PySem PySem.SetTable PyProof.Rows L2 Sv
variable {prog : Program} {w : World} {A : Around} {E : Value → Shared → Prop} {s : Shared}
end Ht
namespace L2
open PySem PySem.Spec PyProof.Rows Ti Sv Ht
end L2

set_option Elab.async false
set_option linter.all false
set_option maxRecDepth 100000
/-! The judgements with a floor for the count of tokens: a ahead, b behind. Tokens are never taken back, so a floor stays. -/
namespace L2
open PySem PySem.Spec PyProof.Rows
section
variable {α : Type} {M : Model} {A : Around} {E : Value → Shared → Prop} {s : Shared} {n : Nat}
end

section
variable {X : Cx} {a b c : Nat} {e e1 e2 : Expr} {es rest : List Expr} {te ta tb : TE} {t : TA} {pos p : Pos} {st : Stmt} {sts : List Stmt} {ts us : TS} {tA : TT}
/-! the plain ones keep a floor -/
/-! .. and without a floor ahead they are plain -/
/-! what takes a token -/
/-! arguments -/
/-! and, not -/
/-! calls -/
section
variable {k : Nat} {f : Addr} {fd : FuncData} {ps : List Str} {sp : Sp} {dvs : List V} {ds : List Value} {E : St → XK} {x : Str}
end
/-! statements -/
/-! walks -/
end

/-! defs -/
end L2

set_option Elab.async false
set_option linter.all false
set_option maxRecDepth 100000
namespace L2
open PySem PySem.Spec PyProof.Rows
section
variable {X : Cx}
end
end L2

set_option Elab.async false
set_option linter.all false
set_option maxRecDepth 100000
namespace L2
open PySem PySem.Spec PyProof.Rows
section
variable {X : Cx} {pins : List (Addr × Obj)} {σ : St} {H : Hp} {s : Shared}
end
end L2

set_option Elab.async false
set_option linter.all false
set_option maxRecDepth 100000
namespace L2
open PySem PySem.Spec PyProof.Rows
end L2

set_option Elab.async false
set_option linter.all false
set_option maxRecDepth 100000
set_option maxHeartbeats 4000000
namespace L2
open PySem PySem.Spec PyProof.Rows
section
variable {prog : Program} {w : World} {A : Around} {E : Value → Shared → Prop} {R : Result → Shared → Prop}
end
end L2

set_option Elab.async false
set_option linter.all false
set_option maxRecDepth 100000
namespace L2
open PySem PySem.Spec PyProof.Rows
section
variable {X : Cx} {a b : Nat} {e e1 e2 : Expr} {rest : List Expr} {tA tB' : TT} {te : TE} {pos : Pos}
end
end L2

set_option Elab.async false
set_option linter.all false
set_option maxRecDepth 100000
set_option maxHeartbeats 4000000
namespace L2
open PySem PySem.Spec PyProof.Rows
section
variable {prog : Program} {w : World} {A : Around} {E : Value → Shared → Prop} {R : Result → Shared → Prop}
end
end L2

set_option Elab.async false
set_option linter.all false
set_option maxRecDepth 100000
namespace L2
open PySem PySem.Spec PyProof.Rows
end L2

set_option Elab.async false
set_option linter.all false
set_option maxRecDepth 100000
set_option maxHeartbeats 4000000
namespace Sv
open PySem PyProof.Rows
variable {prog : Program} {w : World} {A : Around} {E : Value → Shared → Prop} {s : Shared}
end Sv
namespace L2
open PySem PySem.Spec PyProof.Rows Ti Sv
end L2

set_option Elab.async false
set_option linter.all false
set_option maxRecDepth 100000
set_option maxHeartbeats 4000000
namespace L2
open PySem PySem.Spec PyProof.Rows
/-! ### enumerate(tuple) -/
section
variable {prog : Program} {w : World} {A : Around} {E : Value → Shared → Prop} {s : Shared}
end
end L2

set_option Elab.async false
set_option linter.all false
set_option maxRecDepth 100000
set_option maxHeartbeats 4000000
namespace L2
open PySem PySem.Spec PyProof.Rows
variable {X : Cx}
end L2

set_option Elab.async false
set_option linter.all false
set_option maxRecDepth 100000
set_option maxHeartbeats 4000000
namespace L2
open PySem PySem.Spec PyProof.Rows Ti Sv Ht
section
variable {prog : Program} {w : World} {A : Around} {E : Value → Shared → Prop} {s : Shared}
end
end L2

set_option Elab.async false
set_option linter.all false
set_option maxRecDepth 100000
namespace L2
open PySem PySem.Spec PyProof.Rows
section
variable {X : Cx} {y : Str} {iy : Nat} {e e1 e2 : Expr} {es : List Expr} {te ta tb : TE} {t : TA} {pos p : Pos}
end
end L2

set_option Elab.async false
set_option linter.all false
set_option maxRecDepth 100000
/-! Judgements that keep a known token: y holds a sign whose token is known ahead and behind (Tk). Calls leave the caller's names as they are. -/
namespace L2
open PySem PySem.Spec PyProof.Rows
section
variable {X : Cx} {y : Str} {iy : Nat} {e e1 e2 : Expr} {es : List Expr} {te ta tb : TE} {t : TA} {pos p : Pos} {σ : St} {s s' : Shared} {tA tB' : TT} {st : Stmt} {sts : List Stmt} {ts us : TS}
end
end L2

set_option Elab.async false
set_option linter.all false
set_option maxRecDepth 100000
/-! A comprehension that strikes its sign from a text, stored at a plain local. -/
namespace L2
open PySem PySem.Spec PyProof.Rows
section
variable {X : Cx} {y : Str} {iy : Nat}
end
end L2

set_option Elab.async false
set_option linter.all false
set_option maxRecDepth 100000
/-! a, b, c = .. with plain local names; an if whose body wants a token; int of a truth is in the layer. -/
namespace L2
open PySem PySem.Spec PyProof.Rows
section
variable {X : Cx} {pos : Pos}
end
end L2

set_option Elab.async false
set_option linter.all false
set_option maxRecDepth 100000
/-! match of a tuple whose first item is a text: cases of a word and names. -/
namespace L2
open PySem PySem.Spec PyProof.Rows
section
variable {X : Cx} {pos p1 p2 p3 q1 q2 : Pos} {j : Nat} {w n m : Str} {i k : Nat} {body : List Stmt} {rest : List MatchCase} {t : TS} {tr : TM}
end
end L2

set_option Elab.async false
set_option linter.all false
set_option maxRecDepth 100000
/-! (v,) * n -/
namespace L2
open PySem PySem.Spec PyProof.Rows PySem.Builtin
end L2

set_option Elab.async false
set_option linter.all false
set_option maxRecDepth 100000
set_option maxHeartbeats 4000000
namespace L2
open PySem PySem.Spec PyProof.Rows
section
variable {prog : Program} {w : World} {A : Around} {E : Value → Shared → Prop} {s : Shared}
end
section
variable {prog : Program} {w : World} {A : Around} {E : Value → Shared → Prop} {s : Shared}
end
section
variable {prog : Program} {w : World} {A : Around} {E : Value → Shared → Prop} {s : Shared}
end
end L2

set_option Elab.async false
set_option linter.all false
set_option maxRecDepth 100000
set_option maxHeartbeats 4000000
namespace L2
open PySem PySem.Spec PyProof.Rows
namespace F
end F
section
variable {prog : Program} {w : World} {A : Around} {E : Value → Shared → Prop} {s : Shared}
end
section
variable {prog : Program} {w : World} {A : Around} {E : Value → Shared → Prop} {s : Shared}
end
end L2

set_option Elab.async false
set_option linter.all false
set_option maxRecDepth 100000
set_option maxHeartbeats 4000000
namespace L2
open PySem PySem.Spec PyProof.Rows
section
variable {prog : Program} {w : World} {K : Type} [DecidableEq K] {knd : HeapKind prog w K} {A : Around} {E : Value → Shared → Prop} {s : Shared}
end
section
variable {X : Cx} {pins : List (Addr × Obj)} {σ : St} {H : Hp} {s : Shared} {a b : Addr} {v : V} {r : Value} {A : Around} {E : Value → Shared → Prop}
end
end L2

set_option Elab.async false
set_option linter.all false
set_option maxRecDepth 100000
set_option maxHeartbeats 4000000
namespace L2
open PySem PySem.Spec PyProof.Rows
/-! ### any(a tuple of numbers) -/
end L2

set_option Elab.async false
set_option linter.all false
set_option maxRecDepth 100000
set_option maxHeartbeats 4000000
namespace L2
open PySem PySem.Spec PyProof.Rows
end L2

set_option Elab.async false
set_option linter.all false
set_option maxRecDepth 100000
set_option maxHeartbeats 4000000
namespace L2
open PySem PySem.Spec PyProof.Rows
section
variable {X : Cx} {e c : Expr} {te tc : TE} {pos p2 : Pos}
end
end L2

set_option Elab.async false
set_option linter.all false
set_option maxRecDepth 100000
set_option maxHeartbeats 4000000
namespace L2
open PySem PySem.Spec PyProof.Rows
end L2

set_option Elab.async false
set_option linter.all false
set_option maxRecDepth 100000
set_option maxHeartbeats 4000000
namespace Sv
open PySem PyProof.Rows Ht
variable {prog : Program} {w : World} {A : Around} {E : Value → Shared → Prop} {s : Shared}
end Sv
namespace L2
open PySem PySem.Spec PyProof.Rows Ti Sv
end L2
namespace L2
open PySem PySem.Spec PyProof.Rows Ti Sv Ht
end L2

set_option Elab.async false
set_option linter.all false
set_option maxRecDepth 100000
set_option maxHeartbeats 4000000
namespace L2
open PySem PySem.Spec PyProof.Rows
/-! ### a set comprehension of texts -/
section
variable {prog : Program} {w : World} {A : Around} {E : Value → Shared → Prop} {R : Result → Shared → Prop} {s : Shared}
end
section
variable {X : Cx}
end
section
variable {prog : Program} {w : World} {A : Around} {R : Result → Shared → Prop} {s : Shared} {elt t0 i0 t1 i1 : Expr} {ifs0 ifs1 : List Expr} {scope : Scope} {pos : Pos} {it acc : Value} {env : Env}
end

section
variable {X : Cx}
end
end L2

set_option Elab.async false
set_option linter.all false
set_option maxRecDepth 100000
set_option maxHeartbeats 4000000
namespace L2
open PySem PySem.Spec PyProof.Rows Ti Sv
end L2

set_option Elab.async false
set_option linter.all false
set_option maxRecDepth 100000
set_option maxHeartbeats 4000000
/-! t < u of tuples of ints and texts, of one kind place by place; min of a list of such tuples. -/
namespace HT
open PySem PySem.Spec PyProof.Rows L2
section
open PySem.SeqAt
open PySem.AutoSeq1 (wpAny_loadPart')
open PySem.MeetsSeq PySem.MeetsSeq2 PySem.MeetsSeq3
end
section
variable {prog : Program} {w : World} {A : Around} {E : Value → Shared → Prop} {s : Shared}
end
end HT

set_option Elab.async false
set_option linter.all false
set_option maxRecDepth 100000
set_option maxHeartbeats 4000000
namespace HT
open PySem L2
end HT
namespace L2
open PySem PySem.Spec PyProof.Rows
section
variable {prog : Program} {w : World} {A : Around} {E : Value → Shared → Prop} {R : Result → Shared → Prop}
end
end L2
namespace L2
open PySem PySem.Spec PyProof.Rows
section
variable {X : Cx}
end
end L2

set_option Elab.async false
set_option linter.all false
set_option maxRecDepth 100000
set_option maxHeartbeats 4000000
namespace L2
open PySem PySem.Calls PySem.Spec PySem.W PyProof.Rows
end L2

set_option Elab.async false
set_option linter.all false
set_option maxRecDepth 100000
set_option maxHeartbeats 4000000
namespace L2
open PySem PySem.Spec PyProof.Rows
end L2

set_option Elab.async false
set_option linter.all false
set_option maxRecDepth 100000
set_option maxHeartbeats 4000000
namespace L2
open PySem PySem.Spec PyProof.Rows
open PySem.W (tabObj CodeHd kla_obj kla_fn envX)

/-! ### lambdas without parameters: made (the code object's table grows), kept, called -/
theorem codeAmong_add (p1 p2 : Pos) (c d : Value) (l : List Value) (h : TriplesOk l) (e : codeAmong p1 (l ++ [rawInt p2.line, rawInt p2.col, c]) = some d) : codeAmong p1 l = some d ∨ d = c := by
  fun_induction TriplesOk l with
  | case1 =>
    simp only [List.nil_append, codeAmong, rawInt] at e
    split at e
    · exact .inr (Option.some.inj e).symm
    · cases e
  | case2 a t b u x rest ih =>
    simp only [List.cons_append, codeAmong] at e ⊢
    split at e
    · rename_i hc; rw [if_pos hc]; exact .inl e
    · rename_i hc; rw [if_neg hc]; exact ih h e
  | case3 l h1 h2 => exact h.elim

/-- a thing at a that is known -/
def isO (a : Addr) (o : Obj) : HO := .ext fun h => h.get? a = some o
theorem isO_ok {P : Program} {w : World} {H : Hp} {h : Heap} {a : Addr} {o : Obj} (e : h.get? a = some o) : ObjOk P w H h a (isO a o) := ⟨e, ⟨o, e⟩, fun _ _ p k => k _ p⟩
theorem isO_get {P : Program} {w : World} {H : Hp} {h : Heap} {a : Addr} {o : Obj} (x : HOk P w H h) (e : H a = some (isO a o)) : h.get? a = some o := (x a _ e).1

section
variable {X : Cx} {pins : List (Addr × Obj)} {σ : St} {H : Hp} {s : Shared} {h' : Heap}
theorem Inv.tblNew {P c' : Addr} {q : Str} {tk : Tok} {cs : Array Value} {pos : Pos} {t' : Nat} (I : Inv X pins σ H s) (hT : H P = some (.tbl #[.str q tk])) (hc : s.heap.objs.size ≤ c')
    (k : ∀ b o, b ≠ P → s.heap.get? b = some o → h'.get? b = some o) (tr : TriplesOk cs.toList) (al : ∀ pos c, codeAmong pos cs.toList = some c → ∃ ca q' tk', c = .ref ca ∧ (#[Value.str q tk] : Array Value)[0]? = some (.str q' tk') ∧ H ca = some (.code q'))
    (new : h'.get? P = some (tabObj (cs ++ #[rawInt pos.line, rawInt pos.col, .ref c']))) (rec : h'.CodeRec (.ref c') q) :
    Inv X pins σ (upd H c' (.code q)) { s with heap := h', toks := t' } := by
  have hn : H c' = none := I.hok.fresh hc
  have nP : ∀ b, H b = none → b ≠ P := fun b e z => by rw [z, hT] at e; cases e
  refine I.step (g' := s.gens) (d' := s.drawn) (ch := []) (fun _ z => nomatch z) (fun b o _ _ _ e n => k b o (nP b n) e) (fun b o _ _ _ e n => ⟨o.slots, k b o (nP b n) e⟩) (fun b o _ e n => ?_) (fun b o _ e => ?_)
    (fun b xs e => ?_) (fun b o u e => ?_) (fun b ps e => ⟨#[], ?_⟩) (fun m hm => ?_) (fun b u e => ?_) I.bare
  · rw [upd_ne (Nat.ne_of_lt (Nat.lt_of_lt_of_le (Heap.lt_size e) hc))]; exact n
  · by_cases hb : b = P
    · subst hb; exact ⟨_, new⟩
    · exact ⟨o, k b o hb e⟩
  · rw [upd_ne (ne_of_none e hn)]; exact e
  · rw [upd_ne (ne_of_none e hn)]; exact e
  · rw [upd_ne (ne_of_none e hn), e]; simp
  · obtain ⟨o, es, ep, ho, r⟩ := hm
    exact ⟨o, es, ep, k _ o (nP _ I.free) ho, r⟩
  · by_cases hb : b = c'
    · subst hb
      rw [upd_same] at e
      cases e
      obtain ⟨c2, o, vs, t, e1, e2, e3, e4⟩ := rec
      cases e1
      exact ⟨o, vs, t, e2, e3, e4⟩
    · rw [upd_ne hb] at e
      by_cases hP : b = P
      · subst hP
        rw [hT] at e
        cases e
        refine ⟨_, new, ?_, fun p c e => ?_⟩
        · rw [show (cs ++ #[rawInt pos.line, rawInt pos.col, Value.ref c']).toList = cs.toList ++ [rawInt pos.line, rawInt pos.col, .ref c'] by simp]
          exact TriplesOk_snoc _ _ _ _ tr
        · rw [show (cs ++ #[rawInt pos.line, rawInt pos.col, Value.ref c']).toList = cs.toList ++ [rawInt pos.line, rawInt pos.col, .ref c'] by simp] at e
          rcases codeAmong_add _ _ _ _ _ tr e with z | z
          · obtain ⟨ca, q', tk', r1, r2, r3⟩ := al _ _ z
            exact ⟨ca, q', tk', r1, r2, by rw [upd_ne (ne_of_none r3 hn)]; exact r3⟩
          · exact ⟨c', q, tk, z, rfl, upd_same⟩
      · refine (I.hok b u e).stay (fun c v hc q => k c v ?_ q) (fun c q => by rw [upd_ne (ne_of_none q hn)]; exact q) fun c xs _ q => by rw [upd_ne (ne_of_none q hn)]; exact q
        rcases hc with z | z
        · rw [z]; exact hP
        · intro y; rw [y, hT] at z; cases z

theorem closureFor_of {scope : Scope} {env : Env} (h : ∀ x, (x, NameKind.free) ∈ scope.names → ∃ c, env.cells.lookup x = some c) :
    ∃ cl : List (Str × Addr), closureFor scope env = pure cl ∧ (∀ x c, cl.lookup x = some c → env.cells.lookup x = some c) ∧ ∀ x, (x, NameKind.free) ∈ scope.names → (cl.lookup x).isSome = true := by
  have go : ∀ (l : List (Str × NameKind)), (∀ x, (x, NameKind.free) ∈ l → ∃ c, env.cells.lookup x = some c) → ∀ (acc : List (Str × Addr)), (∀ x c, acc.lookup x = some c → env.cells.lookup x = some c) →
      ∃ cl : List (Str × Addr), (forIn l acc fun (x : Str × NameKind) (cs : List (Str × Addr)) => (do if x.2 == .free then pure (ForInStep.yield ((x.1, ← cellOf env x.1) :: cs)) else pure (ForInStep.yield cs) : Sem (ForInStep (List (Str × Addr))))) = pure cl ∧
        (∀ x c, cl.lookup x = some c → env.cells.lookup x = some c) ∧ (∀ x, (acc.lookup x).isSome = true → (cl.lookup x).isSome = true) ∧ ∀ x, (x, NameKind.free) ∈ l → (cl.lookup x).isSome = true := by
    intro l
    induction l with
    | nil => intro _ acc ha; exact ⟨acc, by simp, ha, fun _ z => z, fun _ z => nomatch z⟩
    | cons p l ih =>
      intro hl acc ha
      obtain ⟨x, kd⟩ := p
      by_cases hk : kd = .free
      · subst hk
        obtain ⟨c, hc⟩ := hl x (.head _)
        obtain ⟨cl, e, h1, h2, h3⟩ := ih (fun y hy => hl y (.tail _ hy)) ((x, c) :: acc) (fun y d hd => by
          rw [List.lookup_cons] at hd
          split at hd
          · rename_i z; cases hd; rw [eq_of_beq z]; exact hc
          · exact ha y d hd)
        refine ⟨cl, ?_, h1, fun y hy => h2 y ?_, fun y hy => ?_⟩
        · rw [List.forIn_cons]
          simp only [cellOf, hc, pure_bind, bind_assoc]
          exact e
        · rw [List.lookup_cons]
          split
          · rfl
          · exact hy
        · rcases List.mem_cons.mp hy with z | z
          · cases z
            exact h2 x (by rw [List.lookup_cons]; simp)
          · exact h3 y z
      · obtain ⟨cl, e, h1, h2, h3⟩ := ih (fun y hy => hl y (.tail _ hy)) acc ha
        refine ⟨cl, ?_, h1, h2, fun y hy => ?_⟩
        · rw [List.forIn_cons]
          have hb : (kd == NameKind.free) = false := by cases kd <;> first | rfl | exact absurd rfl hk
          simp only [hb, Bool.false_eq_true, if_false, pure_bind]
          exact e
        · rcases List.mem_cons.mp hy with z | z
          · cases z; exact absurd rfl hk
          · exact h3 y z
  obtain ⟨cl, e, h1, _, h3⟩ := go scope.names h [] (fun _ _ z => by cases z)
  refine ⟨cl, ?_, h1, h3⟩
  unfold closureFor
  rw [← e]
  simp
end
end L2
namespace L2
open PySem PySem.Spec PyProof.Rows
open PySem.W (tabObj CodeHd kla_obj kla_fn envX)
/-- the untracked things but the frames that run -/
def baseOf (X : Cx) (s : Shared) (H : Hp) : Heap := PySem.W.hideAll (hidT s.heap H) (frs X.stack)
/-- what the cells of the names hold -/
def CellsAt (sc : Scope) (cs : List (Str × Addr)) (N : List Str) (σ : St) (base : Heap) : Prop :=
  ∀ x c, cs.lookup x = some c → ∃ v, base.IsCell c v ∧ (sc.names.lookup x = some .cell → ∀ (i : Nat) (w : V), N[i]? = some x → σ[i]? = some (some w) → ∃ u, v = some u ∧ RelV w u)
section
variable {X : Cx} {pins : List (Addr × Obj)} {σ : St} {H : Hp} {s : Shared}
theorem Inv.baseGet (I : Inv X pins σ H s) {b : Addr} {o : Obj} (e : s.heap.get? b = some o) (n : H b = none) (hf : b ∉ frs X.stack) : (baseOf X s H).get? b = some o := PySem.W.hideAll_get _ (hidT_get e n) hf
theorem Inv.baseOld (I : Inv X pins σ H s) {b : Addr} {o : Obj} (e : X.base.get? b = some o) : (baseOf X s H).get? b = some o :=
  I.baseGet (I.bs b o e).1 (I.bs b o e).2 fun hb => by
    have := (I.stack.mem hb).1
    rw [e] at this; cases this
theorem Inv.modB (I : Inv X pins σ H s) : Mod X.K X.mg (baseOf X s H) := by
  have k : ∀ b o, X.base.get? b = some o → (baseOf X s H).get? b = some o := fun b o e => I.baseOld e
  obtain ⟨mb, b1, b2⟩ := I.ok.mod.blt
  obtain ⟨bm, ob, e1, e2, e3, e4⟩ := I.ok.mod.bm
  exact ⟨I.ok.mod.kin.keeps k, I.ok.mod.glob.keeps k, ⟨mb, b1.keeps k, b2⟩, I.ok.mod.nolimit.keeps k, ⟨bm, ob, e1, e2, k _ _ e3, e4⟩⟩
theorem Inv.envB (I : Inv X pins σ H s) : Env0 X.prog X.w X.K X.mg (baseOf X s H) X.A X.stack s H := by
  refine ⟨I.ok.frames, I.modB, fun b o e => of_hidT (PySem.W.of_hideAll _ e), ?_, ?_, I.stkFree, I.hok, I.bare⟩
  · unfold baseOf
    rw [PySem.W.hideAll_size, hidT_size]
    exact Nat.le_refl _
  · have all : ∀ (l : List Env), (∀ b ∈ frs l, b ∈ frs X.stack) → s.heap.FunFrames X.base l → s.heap.FunFrames (baseOf X s H) l := by
      intro l
      induction l with
      | nil => intro _ _; trivial
      | cons env r ih =>
        intro hs hl
        obtain ⟨hk, ⟨L, o, hf, hn, ho, hd⟩, hr⟩ := hl
        have hL : L ∈ frs X.stack := hs L (by unfold frs; rw [List.filterMap_cons, hf]; exact List.mem_cons_self)
        exact ⟨hk, ⟨L, o, hf, PySem.W.hideAll_none _ hL, ho, hd⟩, ih (fun b hb => hs b (by unfold frs; rw [List.filterMap_cons, hf]; exact List.mem_cons_of_mem _ hb)) hr⟩
    exact all X.stack (fun _ hb => hb) I.stack
end

/-- f may be called without arguments, over this base: spL tells of what -/
def Callable (P : Program) (w : World) (K : PySem.W.Frag) (mg : Str → Option Value) (base : Heap) (k : Nat) (f : Addr) (spL : Hp → VK → XK → Prop) : Prop :=
  ∀ (A : Around) (outer : List Env) (s : Shared) (H : Hp) (Q : VK) (E : XK), Room k A → Env0 P w K mg base A outer s H → spL H Q E →
    (∃ o fd, s.heap.get? f = some o ∧ o.data = .func fd) ∧ codeAny (model P w) A (.call (.ref f) ⟨[], []⟩) (CR (CXr P w) outer P w H s Q E) s
/-- x(), x a name that holds a function -/
def tCallV (P : Program) (w : World) (K : PySem.W.Frag) (mg : Str → Option Value) (base : Heap) (k i : Nat) (E : St → XK) : TE := fun σ H Q => ∃ f spL, σ[i]? = some (some (.ref f)) ∧ Callable P w K mg base k f spL ∧ spL H Q (E σ)
section
variable {X : Cx}
theorem pe_callV {P : Program} {w : World} {K : PySem.W.Frag} {mg : Str → Option Value} {base : Heap} (hX : X.prog = P ∧ X.w = w ∧ X.K = K ∧ X.mg = mg ∧ X.base = base) {i k : Nat} {x : Str} {p pos : Pos} {E : St → XK} (hN : X.N[i]? = some x) (hv : Vis X.env.scope x) (hr : Room k X.A) (hx : XOk X E) (hd : (x == ("__debug__" : Str)) = false := by decide) (hcd : (x == ("__classdict__" : Str)) = false := by decide) :
    PE X (.Call (.Name x p) [] [] pos) (tCallV P w K mg base k i E) := by
  obtain ⟨rfl, rfl, rfl, rfl, rfl⟩ := hX
  intro pins s σ H Q I h
  obtain ⟨f, spL, e, C, q⟩ := h
  refine wpAny_Call_Name_kw ?_
  have fin : wpAny (model X.prog X.w) X.A (callWith pos (.ref f) [] (backTo pos (starEach [] X.env)) (backToKw pos (keywordEach [] X.env))) (EP X pins σ Q) X.xe s := by
    obtain ⟨⟨o, fd, ho, hd⟩, hrun⟩ := C X.A X.stack s H Q (E σ) hr I.env0 q
    refine PySem.W.callWith_of (P := fun h => ∃ o fd, h.get? f = some o ∧ o.data = .func fd) rfl (fun h ⟨o, fd, ho, hd⟩ => ?_) (evalArgs_nil3 ⟨⟨o, fd, ho, hd⟩, ?_⟩)
    · obtain ⟨oc, od, dat, sl⟩ := o
      dsimp only at hd
      subst hd
      exact ⟨.frame, .inl rfl, (PySem.W.Looks.ld (part := none) ho).andThen .now⟩
    · refine wpAny_call (codeAny_mono hrun fun r s' hq => ?_)
      cases r with
      | error e => exact xok_pass hx I hq
      | ok fl =>
        cases fl with
        | ret u => exact I.after hq
        | next => exact False.elim hq
        | brk => exact False.elim hq
        | cont => exact False.elim hq
  obtain ⟨m, hn, hl⟩ := I.loc
  obtain ⟨u, r, l⟩ := hl i x _ hN e hv
  have r : u = .ref f := r
  subst r
  rcases l with ⟨hk, hm⟩ | ⟨hk, c, hc, hcell⟩
  · exact wpAny_Name (wpAny_loadName_local I.ok.kind hk hn hm fin) hd
  · rcases hk with hk | hk
    · exact wpAny_Name (wpAny_loadName_cell I.ok.kind hk hc hcell fin) hd
    · exact wpAny_Name (wpAny_loadName_free I.ok.kind hk hc hcell fin hcd) hd

end

/-! ### the lambda's own frame -/
def cxL (CX : CXT) (P : Program) (w : World) (K : PySem.W.Frag) (mg : Str → Option Value) (base : Heap) (N : List Str) (qual : Str) (scope : Scope) (f : Addr) (cd : Value) (cells : List (Str × Addr)) (A : Around) (outer : List Env) (s : Shared) (H : Hp) (E : XK) : Cx where
  prog := P
  w := w
  K := K
  mg := mg
  base := base
  A := A.deeper (envX qual scope s.heap.objs.size f cd cells)
  N := N
  s_0 := s
  H_0 := H
  env := envX qual scope s.heap.objs.size f cd cells
  outer := outer
  stack := envX qual scope s.heap.objs.size f cd cells :: outer
  ex := []
  calm := true
  fn := fun _ => false
  pn := []
  xe := fun e s' => wpAny (model P w) (A.deeper (envX qual scope s.heap.objs.size f cd cells)) (leaving (envX qual scope s.heap.objs.size f cd cells) e) (fun _ s'' => CX outer H s E e s'') (fun e' s'' => CX outer H s E e' s'') s'
theorem xok_fnL {P : Program} {w : World} {K : PySem.W.Frag} {mg : Str → Option Value} {base : Heap} {N : List Str} {qual : Str} {scope : Scope} {f : Addr} {cd : Value} {cells : List (Str × Addr)} {A : Around} {outer : List Env} {s : Shared} {H : Hp} {E : XK} :
    XOk (cxL (CXr P w) P w K mg base N qual scope f cd cells A outer s H E) (fun _ => E) := by
  refine ⟨?_, .inl rfl⟩
  intro pins σ H1 s1 e C dx ⟨I, ⟨n1, n2, n3⟩, T, F, nT⟩ hE
  show wpAny (model P w) (A.deeper (envX qual scope s.heap.objs.size f cd cells)) (leaving (envX qual scope s.heap.objs.size f cd cells) (.ref e)) (fun _ s'' => CXr P w outer H s E (.ref e) s'') _ s1
  have hfr : (A.deeper (envX qual scope s.heap.objs.size f cd cells)).frames = some (envX qual scope s.heap.objs.size f cd cells :: outer) := I.ok.frames
  have hst : s1.heap.FunFrames base (envX qual scope s.heap.objs.size f cd cells :: outer) := I.stack
  have hsf : ∀ b ∈ frs (envX qual scope s.heap.objs.size f cd cells :: outer), H1 b = none := I.stkFree
  have hbase : Un (frs outer) [] H H1 s.heap s1.heap := I.base
  refine leave_ok hfr hst rfl F fun h' t ht F' k => ?_
  have ht0 : s.heap.get? t = none := Heap.get?_none_of_le (Nat.le_trans I.sz ht)
  have ne : ∀ b o, s.heap.get? b = some o → b ≠ e := fun b o q z => by
    have n1' : s.heap.get? e = none := n1
    rw [z, n1'] at q; cases q
  have nt : ∀ b o, s.heap.get? b = some o → T ≠ some b := fun b o q z => by
    have n1' : s.heap.get? b = none := (nT b z).1
    rw [n1'] at q; cases q
  refine ⟨e, C, t, dx, H1, rfl, hE, I.os, I.bare, ⟨fun b o q n hb hx => ?_, fun b o q n hb hx => ?_, hbase.free, fun b o q hx => ?_, hbase.tups, hbase.frzs, hbase.tbls⟩,
    Arr.hok I hsf n2 (fun t z => (nT t z).2.1) k, n1, ht0, n2, I.hok.fresh ht, F'⟩
  · refine (k b o (hbase.keep b o q n hb hx) (ne b o q) (nt b o q)).1 fun z => ?_
    have z' : b ∈ s.heap.objs.size :: frs outer := z
    rcases List.mem_cons.mp z' with z' | z'
    · exact absurd (Heap.lt_size q) (by rw [z']; exact Nat.lt_irrefl _)
    · exact hb z'
  · obtain ⟨sl, q1⟩ := hbase.slot b o q n hb hx
    obtain ⟨_, sl', q2⟩ := k b _ q1 (ne b o q) (nt b o q)
    exact ⟨sl', q2⟩
  · obtain ⟨o', q1⟩ := hbase.there b o q hx
    obtain ⟨_, sl', q2⟩ := k b _ q1 (ne b o q) (nt b o q)
    exact ⟨_, q2⟩

/-- a lambda without parameters -/
structure LamSc (sc : Scope) : Prop where
  kind : sc.kind = .function
  co : sc.isCoroutine = false
  gen : sc.isGenerator = false
  nocell : ∀ x ∈ sc.names, x.2 ≠ .cell
/-- the function that the lambda has made lies at f; cs: the cells of the frame in which it was made -/
def LamAt (cs : List (Str × Addr)) (H : Hp) (f : Addr) (q : Str) (params : Arguments) (body : Expr) (sc : Scope) : Prop :=
  ∃ c' pm ctv cl, H f = some (isO f (kla_obj "<lambda>" q params body sc cl pm c' ctv)) ∧ H c' = some (.code q) ∧ (∀ x c, cl.lookup x = some c → cs.lookup x = some c) ∧ (∀ x, (x, NameKind.free) ∈ sc.names → (cl.lookup x).isSome = true) ∧
    ∀ x y c, cs.lookup x = some c → cs.lookup y = some c → x = y
theorem inv_startL {P : Program} {w : World} {K : PySem.W.Frag} {mg : Str → Option Value} {base : Heap} {N : List Str} {qual : Str} {scope : Scope} {f : Addr} {cd : Value} {cells : List (Str × Addr)} {A : Around} {outer : List Env} {s : Shared} {H : Hp} {E : XK} {vs : List V} {h1 : Heap} {tk : Nat}
    (S : LamSc scope) (hd : A.handled = none) (e0 : Env0 P w K mg base A outer s H) (hl : vs.length = N.length) (inj : ∀ x y c, cells.lookup x = some c → cells.lookup y = some c → x = y) (has : ∀ x, (x, NameKind.free) ∈ scope.names → (cells.lookup x).isSome = true)
    (hc : ∀ x c, cells.lookup x = some c → ∃ v, base.IsCell c v) (hv : ∀ (i : Nat) (x : Str) (v : V), N[i]? = some x → vs[i]? = some v → scope.names.lookup x = some .free ∧ ∃ c u, cells.lookup x = some c ∧ base.IsCell c (some u) ∧ RelV v u)
    (hns : h1.Ns s.heap.objs.size (fun x => ([] : List (Str × Value)).reverse.lookup x)) (k : ∀ b o, s.heap.get? b = some o → h1.get? b = some o) :
    Inv (cxL (CXr P w) P w K mg base N qual scope f cd cells A outer s H E) [] (vs.map some) H { s with heap := h1, toks := tk } := by
  have noA : ∀ b : Addr, b ∉ (cxL (CXr P w) P w K mg base N qual scope f cd cells A outer s H E).ex := fun b z => absurd (show b ∈ ([] : List Addr) from z) (by simp)
  have bk : ∀ c v, base.IsCell c v → h1.IsCell c v ∧ H c = none := fun c v ⟨o, ho, hd⟩ => ⟨⟨o, k _ _ (e0.bs _ _ ho).1, hd⟩, (e0.bs _ _ ho).2⟩
  refine ⟨⟨e0.mod, S.kind, rfl, rfl, Nat.le_refl _, inj, fun y hy => ?_, fun y c z _ => (nomatch (show false = true from z)), fun _ => hd, Around.frames_deeper e0.frames, .inr ⟨rfl, rfl⟩, fun b z => absurd z (noA b), e0.bs, e0.bsz, fun b _ _ => noA b, fun b z => absurd z (noA b), e0.funs, e0.frf⟩,
    rfl, e0.bare, Un.kept k, ⟨_, hns, fun i y v h1 h2 h3 => ?_⟩, fun y c h => ?_, e0.hok.fresh (Nat.le_refl _), fun y c h => ?_, fun p hp => absurd (show p ∈ ([] : List (Addr × Obj)) from hp) (by simp), e0.hok.kept k, by rw [List.length_map]; exact hl⟩
  · have hy : scope.names.lookup y = some .cell ∨ scope.names.lookup y = some .free := hy
    rcases hy with hy | hy
    · exact absurd rfl (S.nocell _ (PySem.mem_of_lookup hy))
    · exact Option.isSome_iff_exists.mp (has y (PySem.mem_of_lookup hy))
  · rw [List.getElem?_map] at h2
    obtain ⟨v', hv', e⟩ := Option.map_eq_some_iff.mp h2
    cases e
    obtain ⟨z, c, u, z1, z2, z3⟩ := hv i y _ h1 hv'
    exact ⟨u, z3, .inr ⟨.inr z, c, z1, (bk _ _ z2).1⟩⟩
  · obtain ⟨v, hv⟩ := hc y c h
    exact ⟨v, (bk _ _ hv).1⟩
  · obtain ⟨v, hv⟩ := hc y c h
    exact (bk _ _ hv).2

theorem lam_callable {P : Program} {w : World} {K : PySem.W.Frag} {mg : Str → Option Value} {base : Heap} {k : Nat} {f : Addr} {q : Str} {params : Arguments} {body : Expr} {sc scX : Scope} {cs : List (Str × Addr)} {N NL : List Str} {σ : St} {vL : List V} {spL : Hp → VK → XK → Prop}
    (S : LamSc sc) (hb : ∀ cl pm c' ctv, bindArgs (kla_fn "<lambda>" q params body sc cl pm (.ref c') ctv) ⟨[], []⟩ = pure []) (hlen : vL.length = NL.length)
    (nl : ∀ (i : Nat) (x : Str) (v : V), NL[i]? = some x → vL[i]? = some v → sc.names.lookup x = some .free ∧ scX.names.lookup x = some .cell ∧ ∃ j : Nat, N[j]? = some x ∧ σ[j]? = some (some v)) (hc : CellsAt scX cs N σ base)
    (hL : ∀ H Q E, spL H Q E → LamAt cs H f q params body sc)
    (hbody : ∀ (cd : Value) (cells : List (Str × Addr)) (A : Around) (outer : List Env) (s : Shared) (H : Hp) (Q : VK) (E : XK), Room k (A.deeper (envX q sc s.heap.objs.size f cd cells)) → spL H Q E →
      ∃ t, PE (cxL (CXr P w) P w K mg base NL q sc f cd cells A outer s H E) body t ∧ t (vL.map some) H Q) : Callable P w K mg base (k + 1) f spL := by
  intro A outer s H Q E hr e0 h
  obtain ⟨c', pm, ctv, cl, e1, e2, e3, e4, inj⟩ := hL _ _ _ h
  have ho := isO_get e0.hok e1
  have lim : s.heap.NoLimit := e0.mod.nolimit.keeps fun b o e => (e0.bs b o e).1
  have hcd : s.heap.CodeRec (.ref c') q := by
    obtain ⟨o, vs, tk, a1, a2, a3⟩ := e0.hok _ _ e2
    exact ⟨c', o, vs, tk, rfl, a1, a2, a3⟩
  refine ⟨⟨_, _, ho, rfl⟩, ?_⟩
  refine PySem.W.kla_callFunE hr.depth ho rfl S.co S.gen rfl hcd ?_
  rw [hb]
  refine wpAny_pure (wpAny_newFunctionEnv S.nocell (fun x hx => nomatch hx) (fun h1 hns hsb => ?_) S.kind)
  have kk : ∀ b o, s.heap.get? b = some o → h1.get? b = some o := fun b o e => hsb.extBut b o (Nat.ne_of_lt (Heap.lt_size e)) (Heap.get?_push_of_some _ e)
  refine ⟨lim.keeps kk, ?_⟩
  show codeAny _ _ (.expr body (envX q sc s.heap.objs.size f (.ref c') cl)) _ _
  obtain ⟨t, ht, hq⟩ := hbody (.ref c') cl A outer s H Q E (hr.deeper _) h
  have I : Inv (cxL (CXr P w) P w K mg base NL q sc f (.ref c') cl A outer s H E) [] (vL.map some) H { s with heap := h1, toks := s.toks + ([] : List (Str × Value)).length } :=
    inv_startL S hr.hd e0 hlen (fun x y c a b => inj x y c (e3 _ _ a) (e3 _ _ b)) e4 (fun x c a => let ⟨v, z, _⟩ := hc x c (e3 _ _ a); ⟨v, z⟩) (fun i x v a b => by
      obtain ⟨z1, z2, j, z3, z4⟩ := nl i x v a b
      refine ⟨z1, ?_⟩
      obtain ⟨c, hcl⟩ := Option.isSome_iff_exists.mp (e4 x (PySem.mem_of_lookup z1))
      obtain ⟨v', y1, y2⟩ := hc x c (e3 _ _ hcl)
      obtain ⟨u, rfl, r⟩ := y2 z2 j v z3 z4
      exact ⟨c, u, hcl, y1, r⟩) hns kk
  refine PySem.W.kla_codeExpr (wpAny_mono (ht [] _ (vL.map some) H _ I hq) (fun u s' hs => ?_) fun e s' hs => hs)
  obtain ⟨v, H', J, r, q⟩ := hs
  exact ⟨v, H', J.os, J.bare, J.base, J.hok, r, q⟩

/-! ### a lambda is made -/
def tLam (cs : List (Str × Addr)) (P : Addr) (q : Str) (params : Arguments) (body : Expr) (sc : Scope) : TE := fun _ H Q => (∃ tk, H P = some (.tbl #[.str q tk])) ∧ ∀ f H', (∀ c o, H c = some o → H' c = some o) → H f = none → LamAt cs H' f q params body sc → Q (.ref f) H'
section
variable {X : Cx}
theorem pe_lam {c P : Addr} {q : Str} {params : Arguments} {body : Expr} {sc : Scope} {pos : Pos} (hcode : X.env.code = .ref c) (hC : PySem.W.codeHdIn X.K c P = true) (hdef : defaultsOf params X.env = ([], [])) (hq : X.env.qual ++ "<lambda>" = q)
    (hfr : (sc.names.all fun p => !(p.2 == .free) || (X.env.scope.names.lookup p.1 == some .cell || X.env.scope.names.lookup p.1 == some .free)) = true) : PE X (.Lambda params body sc pos) (tLam X.env.cells P q params body sc) := by
  intro pins s σ H Q I h
  obtain ⟨⟨tk, hT⟩, h⟩ := h
  have C := PySem.W.codeHd_of_K I.kIn hC
  obtain ⟨cs, hP, tr, al⟩ := I.hok _ _ hT
  refine PySem.W.kla_eval hdef ?_
  rw [hq]
  obtain ⟨cl, hcl, c1, c2⟩ := closureFor_of (scope := sc) (env := X.env) (fun x hx => I.ok.has x (by
    have h := List.all_eq_true.mp hfr _ hx
    have h2 : X.env.scope.names.lookup x = some .cell ∨ X.env.scope.names.lookup x = some .free := by simpa using h
    exact h2))
  have hg := I.mod.glob.keeps I.bk
  have nP : ∀ b o, X.base.get? b = some o → b ≠ P := fun b o e z => by
    have n := (I.bs b o e).2
    rw [z, hT] at n; cases n
  have nG : mainGlobals ≠ P := by
    obtain ⟨o, es, ep, e, _⟩ := I.mod.glob
    exact nP _ _ e
  obtain ⟨bm, ob, b1, b2, b3, b4, b5, b6⟩ := I.mod.bm
  have nB : bm ≠ mainGlobals := fun z => by
    obtain ⟨o, es, ep, e, hd, _⟩ := I.mod.glob
    rw [z, e] at b3; cases b3; rw [hd] at b6; cases b6
  have hb : s.heap.BuiltinsAt X.mg P := ⟨bm, ob, b1, b2, nB, nP _ _ b3, I.bk _ _ b3, b4, b5, b6⟩
  cases hca : codeAmong pos cs.toList with
  | none =>
    refine PySem.W.kla_makeFunction (mg := X.mg) hcl I.ok.glob hg hcode C hP tr hca nG hb fun c' ctv h' tk' hx hge hlt hrec htb => ?_
    have I1 := I.tblNew (t' := tk') hT hge hx tr al htb hrec
    have hn : H c' = none := I.hok.fresh hge
    have I2 := I1.laid (a := h'.objs.size) (o := isO h'.objs.size (kla_obj "<lambda>" q params body sc cl ((X.mg "__name__").getD .none) c' ctv)) (t' := tk') (h' := h'.push (kla_obj "<lambda>" q params body sc cl ((X.mg "__name__").getD .none) c' ctv))
      (fun b u e => Heap.get?_push_of_some _ e) (Nat.le_refl _) (isO_ok (Heap.get?_push_size _ rfl))
    have hf : (upd H c' (.code q)) h'.objs.size = none := I1.hok.fresh (Nat.le_refl _)
    refine ⟨.ref h'.objs.size, _, I2, rfl, h _ _ (fun b o e => ?_) ?_ ⟨c', _, ctv, cl, upd_same, ?_, c1, c2, I.ok.inj⟩⟩
    · have n1 : b ≠ c' := fun z => by rw [z, hn] at e; cases e
      have e' : (upd H c' (.code q)) b = some o := by rw [upd_ne n1]; exact e
      rw [upd_ne (ne_of_none e' hf)]; exact e'
    · rw [upd_ne (Nat.ne_of_gt hlt)] at hf; exact hf
    · rw [upd_ne (Nat.ne_of_lt hlt)]; exact upd_same
  | some cv =>
    obtain ⟨ca, q', tk1, rfl, e2, e3⟩ := al _ _ hca
    have : q' = q := by
      have e2 : some (Value.str q tk) = some (Value.str q' tk1) := e2
      cases e2; rfl
    subst this
    refine PySem.W.kla_makeFunctionHit (mg := X.mg) hcl I.ok.glob hg hcode C hP tr hca hb fun ctv h' tk' hx hsz => ?_
    have I1 := I.kept (h' := h') (t' := tk') hx
    have I2 := I1.laid (a := h'.objs.size) (o := isO h'.objs.size (kla_obj "<lambda>" q' params body sc cl ((X.mg "__name__").getD .none) ca ctv)) (t' := tk') (h' := h'.push (kla_obj "<lambda>" q' params body sc cl ((X.mg "__name__").getD .none) ca ctv))
      (fun b u e => Heap.get?_push_of_some _ e) (Nat.le_refl _) (isO_ok (Heap.get?_push_size _ rfl))
    have hf : H h'.objs.size = none := I1.hok.fresh (Nat.le_refl _)
    exact ⟨.ref h'.objs.size, _, I2, rfl, h _ _ (fun b o e => by rw [upd_ne (ne_of_none e hf)]; exact e) hf ⟨ca, _, ctv, cl, upd_same, by rw [upd_ne (ne_of_none e3 hf)]; exact e3, c1, c2, I.ok.inj⟩⟩
end

/-! ### a def in which lambdas stand: its code object is known -/
theorem Fun.okL {P : Program} {w : World} {K : PySem.W.Frag} {mg : Str → Option Value} {base : Heap} {x qual : Str} {st : Stmt} {f c : Addr} {fd : FuncData} {N ps : List Str} {k : Nat} {sp : Sp} (F : Fun K x qual st f fd) (hc : fd.code = .ref c) (S : FnScope N ps (defScope st)) (len : ∀ vs H Q E, sp vs H Q E → vs.length = ps.length)
    (hbody : ∀ (A : Around) (outer : List Env) (s : Shared) (H : Hp) (vs : List V) (Q : VK) (E : XK), Room k (A.deeper (envOfC qual (defScope st) s.heap.objs.size f (.ref c))) → sp vs H Q E →
      ∃ t, PSs (cxOf (CXr P w) P w K mg base N qual (defScope st) f (.ref c) A outer s H E).nox (defBody st) t ∧ t { nx := fun _ H' => Q .non H', rt := Q } (start N vs) H) : FnOk P w K mg base (CXr P w) (k + 1) f fd ps sp := by
  obtain ⟨oc, od, kV, doc, pm, an, cdv, ct, osl, rfl, lk, hcd⟩ := F.ex
  have hc : cdv = .ref c := hc
  subst hc
  exact fn_of lk hcd S len fun A outer s H vs Q E hr hsp => let ⟨t, h, q⟩ := hbody A outer s H vs Q E hr hsp; ⟨t, h.nox, q⟩

/-! ### list.count, flat items -/
section
variable {X : Cx}
theorem countP_vals {y : V} {uy : Value} (ry : RelV y uy) (fy : flatV y = true) : ∀ {ys : List V} {us : List Value}, Vals ys us → ys.all flatV = true → us.countP (eqU y) = ys.countP fun z => eqV z y
  | _, _, .nil, _ => rfl
  | _, _, .cons (a := z) r rv, f => by
    rw [List.all_cons, Bool.and_eq_true] at f
    rw [List.countP_cons, List.countP_cons, countP_vals ry fy rv f.2, eqU_of r f.1]
def rCount (K : PySem.W.Frag) : V → List V → Hp → VK → Prop := fun x xs H Q => ∃ (a : Addr) (ys : List V) (y : V), x = V.ref a ∧ xs = [y] ∧ SqL K H a ys ∧ flatV y = true ∧ ys.all flatV = true ∧ Q (.int (ys.countP (fun z => eqV z y) : Nat)) H
theorem mt_countL : MtR X "list.count" (rCount X.K) := by
  intro pins s σ H x xs v us Q I rx rxs h
  obtain ⟨a, ys, y, rfl, rfl, hs, fy, fys, q⟩ := h
  cases rx
  cases rxs with
  | cons ry rt =>
    rename_i uy ut
    cases rt
    obtain ⟨its, rv, ⟨⟨cls, dd, data, sl⟩, n, ho, hc, hdn, hd⟩, hlen⟩ := I.list hs
    simp only at hc hd
    subst hc hd
    refine call_meets PySem.F.slot_list_count ⟨_, ho, rfl⟩ PySem.F.entry_list_count (PySem.F.args_list_count_2 _ _)
      (SeqAt.list_countAt a its.toArray n dd sl uy (eqU y)) ⟨ho, fun u' hu' => mem_eqAt ry fy rv fys u' (by simpa using hu'), ?_⟩
    refine ⟨.int _, H, I.tok _, ⟨_, rfl⟩, ?_⟩
    rw [show its.toArray.toList = its from rfl, countP_vals ry fy rv fys]
    exact q
end
end L2

set_option Elab.async false
set_option linter.all false
set_option maxRecDepth 100000
set_option maxHeartbeats 4000000
namespace L2
open PySem PySem.Spec PyProof.Rows
open PySem.W (tabObj CodeHd)
/-- the tables that are tracked from the start: code object, table, the name of what is made there -/
abbrev Tabs := List (Addr × Addr × Str)
def tabH (T : Tabs) (b : Addr) : Option HO := (T.find? fun p => decide (p.2.1 = b)).map fun p => .tbl #[.str p.2.2 0]
theorem tabH_some {T : Tabs} {b : Addr} {u : HO} (h : tabH T b = some u) : ∃ c q, (c, b, q) ∈ T ∧ u = .tbl #[.str q 0] := by
  unfold tabH at h
  obtain ⟨⟨c, P, q⟩, e, rfl⟩ := Option.map_eq_some_iff.mp h
  have e1 := List.mem_of_find?_eq_some e
  have e2 := List.find?_some e
  have e2 : P = b := by simpa using e2
  subst e2
  exact ⟨c, q, e1, rfl⟩
/-- nothing is tracked but the script, known to the object, and the tables -/
theorem law_callT {P : Program} {w : World} {K : PySem.W.Frag} {mg mb : Str → Option Value} {CX : CXT} {k : Nat} {fa a : Addr} {fd : FuncData} {x : Str} {sp : Sp} {s₁ : Shared} {vs : List Value} {ns : List Int} {T : Tabs}
    (KX : K.In s₁.heap) (hns : s₁.heap.Ns mainGlobals mg) (hb : s₁.heap.Ns builtinsNs mb) (hbb : ∀ x : Str, x ≠ "__name__" → mb x = bootBuiltins x) (hlim : s₁.heap.NoLimit) (hbm : Bm mg s₁.heap) (hg : s₁.gens = #[])
    (ha : s₁.heap.get? a = some { cls := .type "list", data := .seq vs.toArray }) (hi : IntsAre vs ns) (hl : ns.length ≤ sizeLine) (hr : Room k callerA)
    (hT : ∀ p ∈ T, s₁.heap.get? p.2.1 = some (tabObj #[]) ∧ CodeHd s₁.heap p.1 p.2.1 ∧ K.lookup p.2.1 = none)
    (F : ∀ base : Heap, K.In base → base.Ns mainGlobals mg → FnOk P w K mg base CX k fa fd [x] sp) (hbind : ∀ (s : Shared) (u : Value), BindsTo s fd ⟨[u], []⟩ [(x, u)])
    (hsp : ∀ H : Hp, SqL K H a (ns.map V.int) → (∀ b u, tabH T b = some u → H b = some u) → sp [.ref a] H (fun v _ => v = .bl true) fun _ _ _ => False)
    (hCX : ∀ H e s', CX [] H s₁ (fun _ _ _ => False) e s' → False) :
    codeAny (model P w) callerA (.call (.ref fa) ⟨[.ref a], []⟩) (fun r s' => r = .ok (.ret (.bool true)) ∧ OldK s₁.heap s'.heap ∧ s'.os = s₁.os ∧ AllBare s'.gens) s₁ := by
  have rv := vals_ints hi
  have lenV := hi.length
  have naT : ∀ u, tabH T a ≠ some u := fun u z => by
    obtain ⟨c, q, hm, _⟩ := tabH_some z
    have := (hT _ hm).1
    rw [ha] at this
    have h2 := congrArg (Option.map Obj.data) this
    cases h2
  have core : ∀ H : Hp, (∀ b, H b ≠ none → (b = a ∧ ∃ o xs, H b = some (.frz o (.lst xs))) ∨ tabH T b = H b) → SqL K H a (ns.map V.int) → HOk P w H s₁.heap → (H a ≠ none → K.lookup a = none) → (∀ b u, tabH T b = some u → H b = some u) →
      codeAny (model P w) callerA (.call (.ref fa) ⟨[.ref a], []⟩) (fun r s' => r = .ok (.ret (.bool true)) ∧ OldK s₁.heap s'.heap ∧ s'.os = s₁.os ∧ AllBare s'.gens) s₁ := by
    intro H hO hS hok hK hTH
    have base_of : ∀ {b : Addr} {o : Obj}, s₁.heap.get? b = some o → H b = none → (hidT s₁.heap H).get? b = some o := fun e n => hidT_get e n
    have what : ∀ {b : Addr} {o : Obj}, s₁.heap.get? b = some o → H b ≠ none → o = { cls := .type "list", data := .seq vs.toArray } ∨ o = tabObj #[] := fun {b o} e n => by
      rcases hO b n with ⟨z, _⟩ | z
      · subst z
        rw [ha] at e; cases e
        exact .inl rfl
      · cases q : H b with
        | none => exact absurd q n
        | some u =>
          rw [q] at z
          obtain ⟨c, q', hm, _⟩ := tabH_some z
          have := (hT _ hm).1
          rw [e] at this; cases this
          exact .inr rfl
    have noA : ∀ {b : Addr} {o : Obj}, s₁.heap.get? b = some o → (∀ l n, o.data ≠ .seq l n) → (∀ l, o.data ≠ .fields l) → H b = none := fun {b o} e d1 d2 => by
      cases q : H b with
      | none => rfl
      | some u =>
        rcases what e (by rw [q]; simp) with z | z
        · rw [z] at d1; exact absurd rfl (d1 _ _)
        · rw [z] at d2; exact absurd rfl (d2 _)
    have nsK : ∀ {b : Addr} {m : Str → Option Value}, s₁.heap.Ns b m → (hidT s₁.heap H).Ns b m := fun {b m} ⟨o, es, ep, e, d, r⟩ => ⟨o, es, ep, base_of e (noA e (fun _ _ z => by rw [d] at z; cases z) (fun _ z => by rw [d] at z; cases z)), d, r⟩
    have hKb : K.In (hidT s₁.heap H) := fun b o e => base_of (KX b o e) (by
      cases q : H b with
      | none => rfl
      | some u =>
        rcases hO b (by rw [q]; simp) with ⟨z, _⟩ | z
        · subst z
          rw [hK (by rw [q]; simp)] at e; cases e
        · rw [q] at z
          obtain ⟨c, q', hm, _⟩ := tabH_some z
          rw [(hT _ hm).2.2] at e; cases e)
    have hM : Mod K mg (hidT s₁.heap H) := ⟨hKb, nsK hns, ⟨mb, nsK hb, hbb⟩, let ⟨mc, h1, h2⟩ := hlim; ⟨mc, nsK h1, h2⟩, by
      obtain ⟨bm, ob, b1, b2, b3, b4, b5, b6⟩ := hbm
      exact ⟨bm, ob, b1, b2, base_of b3 (noA b3 (fun _ _ z => by rw [b6] at z; cases z) (fun _ z => by rw [b6] at z; cases z)), b4, b5, b6⟩⟩
    have e0 : Env0 P w K mg (hidT s₁.heap H) callerA [] s₁ H := ⟨rfl, hM, fun b o e => of_hidT e, Nat.le_of_eq (hidT_size _ _), trivial, fun b hb => absurd (show b ∈ ([] : List Addr) from hb) (by simp), hok, .of_eq hg⟩
    refine codeAny_mono ((F _ hKb (nsK hns)).run callerA [] s₁ H ⟨[.ref a], []⟩ [.ref a] [.ref a] _ _ hr e0 (hbind s₁ (.ref a)) (.cons rfl .nil) (hsp H hS hTH)) fun r s' h => ?_
    cases r with
    | error e => exact (hCX H e s' h).elim
    | ok fl =>
      cases fl with
      | next => exact False.elim h
      | brk => exact False.elim h
      | cont => exact False.elim h
      | ret u =>
        obtain ⟨v, H', os, bare, un, hok', r', q⟩ := h
        have q' : v = .bl true := q
        subst q'
        obtain rfl : u = Value.bool true := r'
        refine ⟨rfl, ⟨fun b o e => ?_, fun b o e => un.there b o e (by simp)⟩, os, bare⟩
        cases q : H b with
        | none => exact .inl (un.keep b o e q (by intro z; exact absurd (show b ∈ ([] : List Addr) from z) (by simp)) (by simp))
        | some u =>
          rcases hO b (by rw [q]; simp) with ⟨_, ob, xs, z⟩ | z
          · have z2 := un.frzs b ob _ z
            obtain ⟨e1, _⟩ := hok b _ z
            obtain ⟨e2, _⟩ := hok' b _ z2
            rw [e] at e1; cases e1
            exact .inl e2
          · rw [q] at z
            obtain ⟨c, q', hm, rfl⟩ := tabH_some z
            obtain ⟨t1, t2, _⟩ := hT _ hm
            obtain ⟨more, z2⟩ := un.tbls b _ q
            obtain ⟨cs, e2, _⟩ := hok' b _ z2
            rw [e] at t1
            cases t1
            exact .inr (.inl ⟨(t2.tab e).isCodeTable, rfl, #[], cs, rfl, by rw [e2]; simp⟩)
  have tabOk : ∀ {H : Hp} {b : Addr} {u : HO}, tabH T b = some u → ObjOk P w H s₁.heap b u := fun {H b u} z => by
    obtain ⟨c, q', hm, rfl⟩ := tabH_some z
    exact ⟨#[], (hT _ hm).1, trivial, fun pos c z => by cases z⟩
  cases hk : K.lookup a with
  | some o =>
    have e := KX a o hk
    rw [ha] at e
    cases e
    refine core (tabH T) (fun b _ => .inr rfl) (.inr ⟨_, vs.toArray, _, hk, rfl, rfl, rfl, by rw [List.size_toArray, lenV]; exact hl, by simpa using rv⟩) (fun b u z => tabOk z) (fun z => ?_) fun b u z => z
    cases q : tabH T a with
    | none => exact absurd q z
    | some u => exact absurd q (naT u)
  | none =>
    refine core (fun b => if b = a then some (.frz { cls := .type "list", data := .seq vs.toArray } (.lst (ns.map V.int))) else tabH T b) (fun b hb => ?_) (.inl (.inr ⟨{ cls := .type "list", data := .seq vs.toArray }, if_pos rfl⟩)) (fun b u z => ?_) (fun _ => hk) fun b u z => ?_
    · by_cases h : b = a
      · exact .inl ⟨h, _, _, if_pos h⟩
      · exact .inr (if_neg h).symm
    · by_cases h : b = a
      · have z' := (if_pos h).symm.trans z
        cases z'
        subst h
        exact ⟨ha, by rw [List.length_map]; exact hl, vs, _, rv, ha⟩
      · exact tabOk ((if_neg h).symm.trans z)
    · have h : b ≠ a := fun y => by subst y; exact naT u z
      exact (if_neg h).trans z

theorem walk_ofT {l : PySem.W.OpenLaw} {n k : Nat} {q : Program} {loose : List Str} {XP : (Str → Option Value) → Heap → Prop} {YP : World → Heap → Prop} {d : DefRec} {K : Params → PySem.W.Frag} {CX : World → CXT} {sp : World → Sp} {x : Str} (T : Tabs)
    (hn : l.most = some n) (hn2 : n ≤ sizeLine) (hdf : d.params.defaults = []) (hr : Room k callerA)
    (hY : ∀ (w : World) (h : Heap), YP w h → (K w.params).In h ∧ ∀ p ∈ T, h.get? p.2.1 = some (tabObj #[]))
    (hK : ∀ (P : Params), ∀ p ∈ T, PySem.W.codeHdIn (K P) p.1 p.2.1 = true ∧ (K P).lookup p.2.1 = none)
    (F : ∀ (w : World) (mg : Str → Option Value) (fa : Addr) (h : Heap), (K w.params).In h → h.Ns mainGlobals mg → mg d.name = some (.ref fa) →
      ∃ fd : FuncData, (∀ (s : Shared) (u : Value), BindsTo s fd ⟨[u], []⟩ [(x, u)]) ∧
        ∀ base : Heap, (K w.params).In base → base.Ns mainGlobals mg → FnOk l.prog w (K w.params) mg base (CX w) k fa fd [x] (sp w))
    (hsp : ∀ (w : World) (H : Hp) (a : Addr) (ns : List Int), ns.length ≤ n → SqL (K w.params) H a (ns.map V.int) → (∀ b u, tabH T b = some u → H b = some u) → sp w [.ref a] H (fun v _ => v = .bl true) fun _ _ _ => False)
    (hCX : ∀ (w : World) (H : Hp) (s : Shared) (e : Value) (s' : Shared), CX w [] H s (fun _ _ _ => False) e s' → False) :
    PySem.W.WalkO q loose XP YP l.row.toRowW d [] (fun f vs => PySem.call f vs) := by
  refine Att.attach_call hn hdf fun w s₀ s₁ mg mb fa o pm cd doc a vs ns G Y ho hd hcd hmg hobj hints hlen hg => ?_
  obtain ⟨KX, hT⟩ := hY w _ Y
  obtain ⟨fd, hb, hF⟩ := F w mg fa _ KX G.T.g hmg
  exact law_callT (T := T) KX G.T.g G.T.b G.T.builtins G.T.nolimit G.T.bmain hg hobj hints (Nat.le_trans hlen hn2) hr (fun p hp => ⟨hT p hp, PySem.W.codeHd_of_K KX (hK _ p hp).1, (hK _ p hp).2⟩) hF hb (fun H hS hTH => hsp w H a ns hlen hS hTH) fun H e s' => hCX w H s₁ e s'
end L2

set_option Elab.async false
set_option linter.all false
set_option maxRecDepth 100000
set_option maxHeartbeats 4000000
namespace M
open PySem PySem.Spec PyProof.Rows L2
variable {P : Program} {w : World} {K : PySem.W.Frag} {mg : Str → Option Value} {base : Heap} {t : Adr}

/-! ### sets of columns -/
theorem same_new {H : Hp} {D : Addr} {o : HO} (h : H D = none) : Same H (upd H D o) := fun b u hb => by rw [upd_ne (ne_of_none hb h)]; exact hb
theorem yes {σ : L2.St} {H : Hp} {Q : Bool → Hp → Prop} (h : Q true H) : tYes σ H Q := h
def cols : List Nat := [97, 98, 99, 100, 101, 102, 103, 104]
def setOf (x : Str) : Str := ⟨(cols.filter fun c => decide (c ∈ x.cps.toList)).toArray⟩
def isSet (x : Str) : Bool := decide (x = setOf x)
theorem colsText : ("abcdefgh" : Str).cps.toList = cols := by decide +kernel
theorem filterMap_sgn (cs : List Nat) (p : Nat → Bool) (f : V → Option V) (hf : ∀ c ∈ cs, f (sgn c) = if p c = true then some (sgn c) else none) : (cs.map sgn).filterMap f = (cs.filter p).map sgn := by
  induction cs with
  | nil => rfl
  | cons c cs ih =>
    rw [List.map_cons, List.filterMap_cons, hf c (.head _), List.filter_cons]
    cases h : p c with
    | true => simp only [if_true]; rw [ih fun d hd => hf d (.tail _ hd)]; rfl
    | false => simp only [Bool.false_eq_true, if_false]; exact ih fun d hd => hf d (.tail _ hd)
theorem map_str_sgn (cs : List Nat) : cs.map sgn = (cs.map fun c => (⟨#[c]⟩ : Str)).map V.str := by rw [List.map_map]; rfl
/-- keeps the signs of p -/
def keepF (p : Nat → Bool) : V → Option V
  | .str ⟨⟨[c]⟩⟩ => if p c = true then some (sgn c) else none
  | _ => none
theorem keepF_sgn (p : Nat → Bool) (c : Nat) : keepF p (sgn c) = if p c = true then some (sgn c) else none := rfl
theorem setOf_len (x : Str) : (cols.filter fun c => decide (c ∈ x.cps.toList)).length ≤ 8 := List.length_filter_le _ _

def sp_set_of : Sp := fun vs H Q _ => ∃ x : Str, vs = [.str x] ∧ ∀ H', Same H H' → Q (.str (setOf x)) H'
theorem ok_set_of (T : Txt K mg t) : FnOk P w K mg base (CXr P w) 1 t.f_set_of t.d_set_of p_set_of sp_set_of := by
  obtain ⟨tk, hcol⟩ := T.m_COLUMNS
  refine T.F_set_of.okN sc_set_of (fun vs H Q E h => ?_) (fun cdv A outer s H vs Q E hr h => ?_)
  · obtain ⟨x, rfl, _⟩ := h
    rfl
  · obtain ⟨x, rfl, q⟩ := h
    refine ⟨_, pss_one (ps_ret (pe_join pe_str (pe_lc (own := [("column", 1)]) (g := gName 1) (by rfl) sc_set_of.nd (pi_str (pe_glob (v := .str "abcdefgh") (by rfl) hcol ⟨_, rfl⟩)) (blkOk_by (own := [("column", 1)]) (N := N_set_of) (sc := defScope s_set_of) (by decide +kernel))
      (fun _ _ _ _ _ => pg_name (i := 1) sc_set_of.nd rfl (Or.inl rfl)) (fun _ _ _ _ _ => pts_one (pt_cmpR op_in_sign (pv 1) (pv 0) rfl)) (fun _ _ _ _ _ => pv 1)))), ?_⟩
    refine ⟨⟨_, rfl⟩, _, rfl, fun D hD => ?_⟩
    refine lc_str (x := "abcdefgh") (keepF fun c => decide (c ∈ x.cps.toList)) (by decide +kernel) (fun c hc acc N hz hn hy => ?_) ?_
    · refine ⟨rfl, _, rfl, _, rfl, c, x, rfl, rfl, _, rfl, ?_⟩
      rw [keepF_sgn] at hn hy
      refine ite2 (fun hin => ?_) (fun hin => ?_)
      · rw [if_pos hin] at hy
        exact ⟨_, rfl, acc, upd_same, hz, by rw [upd_upd]; exact hy _ rfl⟩
      · rw [if_neg hin] at hn
        exact hn rfl
    · have e : (sgns "abcdefgh").filterMap (keepF fun c => decide (c ∈ x.cps.toList)) = ((cols.filter fun c => decide (c ∈ x.cps.toList)).map fun c => (⟨#[c]⟩ : Str)).map V.str := by
        rw [← map_str_sgn, ← filterMap_sgn cols _ (keepF fun c => decide (c ∈ x.cps.toList)) fun c _ => keepF_sgn _ c]
        show (("abcdefgh" : Str).cps.toList.map sgn).filterMap _ = _
        rw [colsText]
      rw [e]
      refine ⟨_, D, _, rfl, rfl, .inl (SqL.of upd_same), ?_, ?_⟩
      · show _ + _ * (⟨#[]⟩ : Str).length ≤ _
        rw [len_sgns]
        have := setOf_len x
        omega
      · show Q (.str (Txt.join ⟨#[]⟩ _)) _
        rw [join_sgns]
        exact q _ fun b o hb => by rw [upd_ne (ne_of_none hb hD)]; exact hb

/-- of anything whether it is a set -/
def isSetD : PyData → Bool
  | .str x => isSet x
  | _ => false
theorem deS (x y : Str) : decide (V.str x = V.str y) = decide (x = y) := by
  by_cases h : x = y
  · subst h; simp
  · rw [decide_eq_false h, decide_eq_false fun z => h (V.str.inj z)]
def sp_is_set (K : PySem.W.Frag) : Sp := fun vs H Q _ => ∃ v d, vs = [v] ∧ Dp K H v d ∧ ∀ H', Same H H' → Q (.bl (isSetD d)) H'
/-- isinstance of data, by the kit's own deciders -/
theorem kit_str_no {T : String} (h : T = "NoneType" ∨ T = "bool" ∨ T = "int" ∨ T = "list" ∨ T = "tuple") : PySem.W.kitOne K (.type T) (.type "str") = some false := by
  rcases h with rfl | rfl | rfl | rfl | rfl <;> kernel_rfl
theorem kit_str_yes : PySem.W.kitOne K (.type "str") (.type "str") = some true := by kernel_rfl
theorem ok_is_set (T : Txt K mg t) : FnOk P w K mg base (CXr P w) 2 t.f_is_set t.d_is_set p_is_set (sp_is_set K) := by
  refine T.F_is_set.okN sc_is_set (fun vs H Q E h => ?_) (fun cdv A outer s H vs Q E hr h => ?_)
  · obtain ⟨v, d, rfl, _⟩ := h
    rfl
  · obtain ⟨v, d, rfl, hd, q⟩ := h
    refine ⟨_, pss_one (ps_ret (pe_and (pe_callB call_isi (by rfl) T.n_isinstance (by decide +kernel) (pa_cons (pv 0) (pa_cons (pe_bltn (v := .ty "str") (by rfl) T.n_str (by decide +kernel) rfl) pa_nil)))
      (pe_one (pe_cmpR op_eq (pv 0) (pe_callX (ok_set_of T) (hr.mono (by decide)) (by rfl) T.m_set_of T.F_set_of.kp T.b_set_of .nil xok0 (pa_cons (pv 0) pa_nil)) (nomark _))))), ?_⟩
    cases hd with
    | str x =>
      refine ⟨_, rfl, _, _, _, _, rfl, .of (.str x), (fun z => nomatch z), kit_str_yes, true, rfl, ?_⟩
      refine iteT ?_
      refine ⟨_, rfl, _, rfl, x, rfl, fun H' hs => ⟨rfl, ?_⟩⟩
      show Q (.bl (decide (V.str x = V.str (setOf x)))) H'
      rw [deS]
      exact q H' hs
    | non => exact ⟨_, rfl, _, _, _, _, rfl, .of .non, (fun z => nomatch z), kit_str_no (by simp), false, rfl, iteF (q H (Same.refl _))⟩
    | bl b => exact ⟨_, rfl, _, _, _, _, rfl, .of (.bl b), (fun z => nomatch z), kit_str_no (by simp), false, rfl, iteF (q H (Same.refl _))⟩
    | int i => exact ⟨_, rfl, _, _, _, _, rfl, .of (.int i), (fun z => nomatch z), kit_str_no (by simp), false, rfl, iteF (q H (Same.refl _))⟩
    | lst hs _ => exact ⟨_, rfl, _, _, _, _, rfl, .sqL hs, (fun z => nomatch z), kit_str_no (by simp), false, rfl, iteF (q H (Same.refl _))⟩
    | tup hs _ => exact ⟨_, rfl, _, _, _, _, rfl, .sqT hs, (fun z => nomatch z), kit_str_no (by simp), false, rfl, iteF (q H (Same.refl _))⟩

theorem Same.tup {H H' : Hp} {a : Addr} {xs : List V} (e : Same H H') (h : SqT K H a xs) : SqT K H' a xs := by
  rcases h with (h | ⟨o, h⟩) | h
  · exact .inl (.inl (e _ _ h))
  · exact .inl (.inr ⟨o, e _ _ h⟩)
  · exact .inr h
mutual
theorem dp_same {H H' : Hp} (e : Same H H') : ∀ (d : PyData) (v : V), Dp K H v d → Dp K H' v d
  | .none, _, h => by cases h; exact .non
  | .bool _, _, h => by cases h; exact .bl _
  | .int _, _, h => by cases h; exact .int _
  | .str _, _, h => by cases h; exact .str _
  | .list ds, _, h => by cases h with | lst hs ha => exact .lst (e.seq hs) (dpAll_same e ds _ ha)
  | .tuple ds, _, h => by cases h with | tup hs ha => exact .tup (Same.tup e hs) (dpAll_same e ds _ ha)
  | .dict _, _, h => by cases h
theorem dpAll_same {H H' : Hp} (e : Same H H') : ∀ (ds : List PyData) (vs : List V), DpAll K H vs ds → DpAll K H' vs ds
  | [], _, h => by cases h; exact .nil
  | d :: ds, _, h => by cases h with | cons h1 h2 => exact .cons (dp_same e d _ h1) (dpAll_same e ds _ h2)
end

def sp_need_set (K : PySem.W.Frag) (C : Addr) : Sp := fun vs H Q E => ∃ v d, vs = [v] ∧ Dp K H v d ∧ (isSetD d = true → ∀ H', Same H H' → Q .non H') ∧ (isSetD d = false → ∀ H', Same H H' → E (.ref C) none H')
theorem ok_need_set (T : Txt K mg t) : FnOk P w K mg base (CXr P w) 3 t.f_need_set t.d_need_set p_need_set (sp_need_set K t.c_NoSet) := by
  refine T.F_need_set.okX sc_need_set (fun vs H Q E h => ?_) (fun cdv A outer s H vs Q E hr h => ?_)
  · obtain ⟨v, d, rfl, _⟩ := h
    rfl
  · obtain ⟨v, d, rfl, hd, q, r⟩ := h
    refine ⟨_, pss_one (ps_if (pt_not (pt_val (pe_callX (ok_is_set T) hr (by rfl) T.m_is_set T.F_is_set.kp T.b_is_set .nil xok0 (pa_cons (pv 0) pa_nil)))) (pss_one (ps_raise T.o_NoSet rfl (by rfl) T.m_NoSet xok_fn (pa_cons pe_str pa_nil))) pss_nil), ?_⟩
    refine ⟨_, rfl, v, d, rfl, hd, fun H' hs => ⟨_, rfl, ?_⟩⟩
    cases e : isSetD d with
    | true => exact iteF (q e H' hs)
    | false => exact iteT ⟨by decide, r e H' hs⟩
theorem isSetD_str {d : PyData} (h : isSetD d = true) : ∃ x, d = .str x ∧ isSet x = true := by
  cases d with
  | str x => exact ⟨x, rfl, h⟩
  | _ => cases h
/-- two sets, else NoSet -/
def sp_two (K : PySem.W.Frag) (C : Addr) (f : Str → Str → V) : Sp := fun vs H Q E => ∃ v1 v2 d1 d2, vs = [v1, v2] ∧ Dp K H v1 d1 ∧ Dp K H v2 d2 ∧
  (∀ x y, d1 = .str x → d2 = .str y → isSet x = true → isSet y = true → ∀ H', Same H H' → Q (f x y) H') ∧ (isSetD d1 = false ∨ isSetD d2 = false → ∀ H', Same H H' → E (.ref C) none H')
theorem isSet_len {x : Str} (h : isSet x = true) : x.cps.toList.length ≤ 8 := by
  have e : x = setOf x := of_decide_eq_true h
  rw [e]
  exact setOf_len x
def liesB (x y : Str) : Bool := x.cps.toList.all fun c => decide (c ∈ y.cps.toList)
/-- whether a sign is among those of a text -/
def inF (y : Str) : V → Option V
  | .str ⟨⟨[c]⟩⟩ => some (.bl (decide (c ∈ y.cps.toList)))
  | _ => none
theorem filterMap_in (cs : List Nat) (y : Str) : (cs.map sgn).filterMap (inF y) = (cs.map fun c => decide (c ∈ y.cps.toList)).map V.bl := by
  induction cs with
  | nil => rfl
  | cons c cs ih => exact congrArg (V.bl (decide (c ∈ y.cps.toList)) :: ·) ih
theorem all_map (cs : List Nat) (f : Nat → Bool) : (cs.map f).all id = cs.all f := by
  induction cs with
  | nil => rfl
  | cons c cs ih => exact congrArg (f c && ·) ih
def sp_is_within : Sp := fun vs H Q _ => ∃ x y : Str, vs = [.str x, .str y] ∧ x.cps.size ≤ 64 ∧ ∀ H', Same H H' → Q (.bl (liesB x y)) H'
theorem ok_is_within (T : Txt K mg t) : FnOk P w K mg base (CXr P w) 1 t.f_is_within t.d_is_within p_is_within sp_is_within := by
  refine T.F_is_within.okN sc_is_within (fun vs H Q E h => ?_) (fun cdv A outer s H vs Q E hr h => ?_)
  · obtain ⟨x, y, rfl, _⟩ := h
    rfl
  · obtain ⟨x, y, rfl, hx, q⟩ := h
    refine ⟨_, pss_one (ps_ret (pe_callB (cr_all rfl) (by rfl) T.n_all (by decide +kernel) (pa_cons (pe_lc (own := [("column", 2)]) (g := gName 2) (by rfl) sc_is_within.nd (pi_str (pv 0)) (blkOk_by (own := [("column", 2)]) (N := N_is_within) (sc := defScope s_is_within) (by decide +kernel))
      (fun _ _ _ _ _ => pg_name (i := 2) sc_is_within.nd rfl (Or.inl rfl)) (fun _ _ _ _ _ => pts_nil) (fun _ _ _ _ _ => pe_cmpR op_in_sign (pv 2) (pv 1) rfl)) pa_nil))), ?_⟩
    refine ⟨_, rfl, x, rfl, fun D hD => ?_⟩
    refine lc_str (x := x) (inF y) (by rw [sizeLine_eq]; omega) (fun c hc acc N hz hn hy => ?_) ?_
    · refine ⟨rfl, yes ?_⟩
      refine iteT ?_
      refine ⟨_, rfl, _, rfl, c, y, rfl, rfl, acc, upd_same, hz, ?_⟩
      rw [upd_upd]
      exact hy _ rfl
    · refine ⟨D, _, rfl, SqL.of (by rw [upd_same, show (sgns x).filterMap (inF y) = _ from filterMap_in x.cps.toList y]), ?_⟩
      rw [all_map]
      exact q _ (same_new hD)
theorem ok_lies_in (T : Txt K mg t) : FnOk P w K mg base (CXr P w) 5 t.f_lies_in t.d_lies_in p_lies_in (sp_two K t.c_NoSet fun x y => .bl (liesB x y)) := by
  refine T.F_lies_in.okX sc_lies_in (fun vs H Q E h => ?_) (fun cdv A outer s H vs Q E hr h => ?_)
  · obtain ⟨v1, v2, d1, d2, rfl, _⟩ := h
    rfl
  · obtain ⟨v1, v2, d1, d2, rfl, h1, h2, q, r⟩ := h
    refine ⟨_, pss_cons (ps_expr (pe_callX (ok_need_set T) (hr.mono (by decide)) (by rfl) T.m_need_set T.F_need_set.kp T.b_need_set .nil xok_fn (pa_cons (pv 0) pa_nil)))
      (pss_cons (ps_expr (pe_callX (ok_need_set T) (hr.mono (by decide)) (by rfl) T.m_need_set T.F_need_set.kp T.b_need_set .nil xok_fn (pa_cons (pv 1) pa_nil)))
      (pss_one (ps_ret (pe_callX (ok_is_within T) (hr.mono (by decide)) (by rfl) T.m_is_within T.F_is_within.kp T.b_is_within .nil xok0 (pa_cons (pv 0) (pa_cons (pv 1) pa_nil)))))), ?_⟩
    refine ⟨_, rfl, v1, d1, rfl, h1, fun e1 H1 s1 => ?_, fun e1 H1 s1 => r (.inl e1) H1 s1⟩
    refine ⟨_, rfl, v2, d2, rfl, dp_same s1 _ _ h2, fun e2 H2 s2 => ?_, fun e2 H2 s2 => r (.inr e2) H2 (s1.trans s2)⟩
    obtain ⟨x, rfl, hx⟩ := isSetD_str e1
    obtain ⟨y, rfl, hy⟩ := isSetD_str e2
    cases h1
    cases h2
    have l1 := isSet_len hx
    rw [Array.length_toList] at l1
    exact ⟨_, rfl, _, rfl, x, y, rfl, by omega, fun H3 s3 => q x y rfl rfl hx hy H3 (s1.trans (s2.trans s3))⟩
end M

set_option Elab.async false
set_option linter.all false
set_option maxRecDepth 100000
set_option maxHeartbeats 4000000
namespace M
open PySem PySem.Spec PyProof.Rows L2
variable {P : Program} {w : World} {K : PySem.W.Frag} {mg : Str → Option Value} {base : Heap} {t : Adr}

/-! ### the drawn numbers -/
def sp_cell_at (K : PySem.W.Frag) : Sp := fun vs H Q _ => ∃ (a : Addr) (ns : List Int) (k : Int), vs = [.ref a, .int k] ∧ SqL K H a (ns.map V.int) ∧ 0 ≤ k ∧ ∀ z, Q (.int z) H
theorem ok_cell_at (T : Txt K mg t) : FnOk P w K mg base (CXr P w) 1 t.f_cell_at t.d_cell_at p_cell_at (sp_cell_at K) := by
  refine T.F_cell_at.okN sc_cell_at (fun vs H Q E h => ?_) (fun cdv A outer s H vs Q E hr h => ?_)
  · obtain ⟨a, ns, k, rfl, _⟩ := h
    rfl
  · obtain ⟨a, ns, k, rfl, hS, hk, q⟩ := h
    refine ⟨_, pss_cons (ps_if (pt_cmpR op_lt (pv 1) (pe_callB call_len_seq (by rfl) T.n_len PySem.boot_len (pa_cons (pv 0) pa_nil)) (nomark _)) (pss_one (ps_ret (pe_ix ix_list (pv 0) (pv 1) (fun _ _ => rfl)))) pss_nil) (pss_one (ps_ret pe_int)), ?_⟩
    refine ⟨_, rfl, _, rfl, a, _, rfl, .inl hS, _, _, rfl, rfl, _, rfl, ?_⟩
    refine ite2 (fun hlt => ?_) (fun _ => q 0)
    have hlt : k < ((ns.map V.int).length : Int) := of_decide_eq_true hlt
    obtain ⟨j, rfl⟩ : ∃ j : Nat, k = (j : Int) := ⟨k.toNat, by omega⟩
    have hj : j < (ns.map V.int).length := by omega
    have hj2 : j < ns.length := by simpa using hj
    refine ⟨_, rfl, _, rfl, a, _, _, .int (ns[j]), rfl, rfl, hS, atI_nat (by simp [hj2]), q _⟩
structure StAt (H : Hp) (p : Addr) : Prop where
  ex : ∃ x y z : Int, H p = some (.lst [.int x, .int y, .int z]) ∧ 0 ≤ x ∧ 0 ≤ y ∧ y ≤ 2147483647 ∧ 0 ≤ z
def stO (x y z : Int) : HO := .lst [.int x, .int y, .int z]
/-- all else stays, the state stays a state -/
structure Mv (p : Addr) (H H' : Hp) : Prop where
  st : StAt H' p
  sm : ∀ b o, b ≠ p → H b = some o → H' b = some o
theorem Mv.trans {p : Addr} {H H1 H2 : Hp} (a : Mv p H H1) (b : Mv p H1 H2) : Mv p H H2 := ⟨b.st, fun c o hc h => b.sm c o hc (a.sm c o hc h)⟩
theorem Mv.same {p : Addr} {H H1 H2 : Hp} (a : Mv p H H1) (s : Same H1 H2) : Mv p H H2 := by
  obtain ⟨x, y, z, h, r⟩ := a.st.ex
  exact ⟨⟨x, y, z, s _ _ h, r⟩, fun c o hc h => s _ _ (a.sm c o hc h)⟩
theorem Mv.refl {p : Addr} {H : Hp} (a : StAt H p) : Mv p H H := ⟨a, fun _ _ _ h => h⟩
theorem StAt.same {p : Addr} {H H' : Hp} (a : StAt H p) (s : Same H H') : Mv p H H' := (Mv.refl a).same s
/-- a new object -/
theorem mv_st {H : Hp} {p : Addr} {x y z : Int} (hx : 0 ≤ x) (hy : 0 ≤ y) (hy2 : y ≤ 2147483647) (hz : 0 ≤ z) : Mv p H (upd H p (stO x y z)) := ⟨⟨x, y, z, upd_same, hx, hy, hy2, hz⟩, fun b o hb h => by rw [upd_ne hb]; exact h⟩
def sp_state (K : PySem.W.Frag) : Sp := fun vs H Q _ => ∃ (a : Addr) (ns : List Int) (k : Int), vs = [.ref a, .int k] ∧ SqL K H a (ns.map V.int) ∧ 0 ≤ k ∧
  ∀ p H', H p = none → Same H H' → StAt H' p → Q (.ref p) H'
theorem ok_state (T : Txt K mg t) : FnOk P w K mg base (CXr P w) 2 t.f_state t.d_state p_state (sp_state K) := by
  refine T.F_state.okN sc_state (fun vs H Q E h => ?_) (fun cdv A outer s H vs Q E hr h => ?_)
  · obtain ⟨a, ns, k, rfl, _⟩ := h
    rfl
  · obtain ⟨a, ns, k, rfl, hS, hk, q⟩ := h
    refine ⟨_, pss_cons (ps_set (i := 2) sc_state.nd rfl (Or.inl rfl) (pe_callX (ok_cell_at T) hr (by rfl) T.m_cell_at T.F_cell_at.kp T.b_cell_at .nil xok0 (pa_cons (pv 0) (pa_cons (pv 1) pa_nil))))
      (pss_one (ps_ret (pe_lst (pa_cons (pe_callB (call_max2 rfl) (by rfl) T.n_max (by decide +kernel) (pa_cons pe_int (pa_cons (pe_op op_sub (pv 2) (pe_op op_pow pe_int pe_int)) pa_nil)))
        (pa_cons (pe_op op_add (pe_op op_mod (pv 2) pe_int) pe_int) (pa_cons pe_int pa_nil)))))), ?_⟩
    refine ⟨_, rfl, _, rfl, a, ns, k, rfl, hS, hk, fun c => ?_⟩
    refine ⟨_, rfl, _, _, rfl, rfl, ⟨by decide, by decide, by decide⟩, _, _, rfl, rfl, _, _, rfl, _, rfl, _, _, rfl, rfl, (by show (0 : Int) < 2147483629; decide), _, _, rfl, rfl, (by show 3 ≤ sizeLine; decide), fun p hp => ?_⟩
    have h1 := Int.emod_nonneg c (show (2147483629 : Int) ≠ 0 by decide)
    have h2 := Int.emod_lt_of_pos c (show (0 : Int) < 2147483629 by decide)
    refine q p _ hp (same_new hp) ⟨_, _, _, upd_same, ?_, ?_, ?_, ?_⟩
    · split <;> omega
    · omega
    · omega
    · decide
def sp_choice : Sp := fun vs H Q _ => ∃ (p : Addr) (m : Int), vs = [.ref p, .int m] ∧ StAt H p ∧ 0 < m ∧ m < 1073741824 ∧
  ∀ r H', 0 ≤ r → r < m → Mv p H H' → Q (.int r) H'
theorem ok_choice (T : Txt K mg t) : FnOk P w K mg base (CXr P w) 1 t.f_choice t.d_choice p_choice sp_choice := by
  refine T.F_choice.okN sc_choice (fun vs H Q E h => ?_) (fun cdv A outer s H vs Q E hr h => ?_)
  · obtain ⟨p, m, rfl, _⟩ := h
    rfl
  · obtain ⟨p, m, rfl, ⟨x, y, z, hp, hx, hy, hy2, hz⟩, hm, hm2, q⟩ := h
    refine ⟨_, pss_cons (ps_if (pt_cmpR op_gt (pe_ix ix_list (pv 0) pe_int (fun _ _ => rfl)) pe_int (nomark _))
        (pss_cons (ps_set (i := 2) sc_choice.nd rfl (Or.inl rfl) (pe_op op_mod (pe_ix ix_list (pv 0) pe_int (fun _ _ => rfl)) (pv 1)))
        (pss_cons (ps_asg (pe_op op_fdiv (pe_ix ix_list (pv 0) pe_int (fun _ _ => rfl)) (pv 1)) (pg_sub (pv 0) pe_int set_list))
        (pss_one (ps_ret (pv 2))))) pss_nil)
      (pss_cons (ps_asg (pe_op op_add (pe_ix ix_list (pv 0) pe_int (fun _ _ => rfl)) pe_int) (pg_sub (pv 0) pe_int set_list))
      (pss_cons (ps_asg (pe_op op_mod (pe_op op_add (pe_op op_add (pe_op op_mul (pe_ix ix_list (pv 0) pe_int (fun _ _ => rfl)) pe_int) pe_int) (pe_ix ix_list (pv 0) pe_int (fun _ _ => rfl))) pe_int) (pg_sub (pv 0) pe_int set_list))
      (pss_cons (ps_set (i := 3) sc_choice.nd rfl (Or.inl rfl) (pe_op op_mod (pe_op op_add (pe_op op_add (pe_op op_mul (pe_ix ix_list (pv 0) pe_int (fun _ _ => rfl)) (pe_ix ix_list (pv 0) pe_int (fun _ _ => rfl))) (pe_op op_mul pe_int (pe_ix ix_list (pv 0) pe_int (fun _ _ => rfl)))) pe_int) pe_int))
      (pss_cons (ps_set (i := 3) sc_choice.nd rfl (Or.inl rfl) (pe_op op_mod (pe_op op_add (pe_op op_mul (pv 3) (pv 3)) (pe_op op_mul pe_int (pv 3))) pe_int))
      (pss_one (ps_ret (pe_op op_mod (pe_op op_fdiv (pv 3) pe_int) (pv 1)))))))), ?_⟩
    refine ⟨_, rfl, p, _, _, .int x, rfl, rfl, SqL.of hp, rfl, _, _, rfl, rfl, _, rfl, ?_⟩
    refine ite2 (fun hg => ?_) (fun hg => ?_)
    · have hg : 0 < x := of_decide_eq_true hg
      refine ⟨_, rfl, p, _, _, .int x, rfl, rfl, SqL.of hp, rfl, _, rfl, _, _, rfl, rfl, hm, ?_⟩
      refine ⟨_, rfl, p, _, _, .int x, rfl, rfl, SqL.of hp, rfl, _, rfl, _, _, rfl, rfl, ⟨hm, hm2⟩, ?_⟩
      refine ⟨_, rfl, p, _, _, 0, rfl, rfl, hp, rfl, ?_⟩
      refine ⟨_, rfl, ?_⟩
      exact q _ _ (Int.emod_nonneg _ (by omega)) (Int.emod_lt_of_pos _ hm) (mv_st (Int.ediv_nonneg hx (by omega)) hy hy2 hz)
    · refine ⟨_, rfl, p, _, _, .int z, rfl, rfl, SqL.of hp, rfl, _, _, rfl, rfl, ?_⟩
      refine ⟨_, rfl, p, _, _, 2, rfl, rfl, hp, rfl, ?_⟩
      refine ⟨_, rfl, p, _, _, .int y, rfl, rfl, SqL.of upd_same, rfl, _, _, rfl, rfl, .inl ⟨by omega, by omega⟩, _, _, rfl, rfl, _, rfl, p, _, _, .int (z + 1), rfl, rfl, SqL.of upd_same, rfl, _, _, rfl, rfl, _, _, rfl, rfl, (by show (0 : Int) < 2147483647; decide), ?_⟩
      refine ⟨_, rfl, p, _, _, 1, rfl, rfl, upd_same, rfl, ?_⟩
      rw [upd_upd]
      dsimp only [List.set]
      generalize hy1 : (y * 48271 + 29 + (z + 1)) % 2147483647 = y1
      have b1 : 0 ≤ y1 := by rw [← hy1]; exact Int.emod_nonneg _ (by decide)
      have b2 : y1 < 2147483647 := by rw [← hy1]; exact Int.emod_lt_of_pos _ (by decide)
      refine ⟨_, rfl, p, _, _, .int y1, rfl, rfl, SqL.of upd_same, rfl, _, rfl, p, _, _, .int y1, rfl, rfl, SqL.of upd_same, rfl, _, _, rfl, rfl, .inl ⟨by omega, by omega⟩, _, rfl, p, _, _, .int y1, rfl, rfl, SqL.of upd_same, rfl, _, _, rfl, rfl, .inl ⟨by decide, by decide⟩, _, _, rfl, rfl, _, _, rfl, rfl, _, _, rfl, rfl, (by show (0 : Int) < 2147483629; decide), ?_⟩
      generalize hm1 : (y1 * y1 + 39373 * y1 + 7) % 2147483629 = m1
      have c1 : 0 ≤ m1 := by rw [← hm1]; exact Int.emod_nonneg _ (by decide)
      have c2 : m1 < 2147483629 := by rw [← hm1]; exact Int.emod_lt_of_pos _ (by decide)
      refine ⟨_, rfl, _, rfl, _, _, rfl, rfl, .inl ⟨by omega, by omega⟩, _, rfl, _, _, rfl, rfl, .inl ⟨by decide, by decide⟩, _, _, rfl, rfl, _, _, rfl, rfl, (by show (0 : Int) < 2147483587; decide), ?_⟩
      refine ⟨_, rfl, _, _, rfl, rfl, ⟨by decide, by decide⟩, _, rfl, _, _, rfl, rfl, hm, ?_⟩
      exact q _ _ (Int.emod_nonneg _ (by omega)) (Int.emod_lt_of_pos _ hm) (mv_st hx b1 (by omega) (by omega))
end M

set_option Elab.async false
set_option linter.all false
set_option maxRecDepth 100000
set_option maxHeartbeats 4000000
namespace M
open PySem PySem.Spec PyProof.Rows L2
variable {P : Program} {w : World} {K : PySem.W.Frag} {mg : Str → Option Value} {base : Heap} {t : Adr}

/-! ### the columns at the places of a number's ones -/
def bitsL : List Nat → Int → List Nat
  | [], _ => []
  | c :: cs, n => if n % 2 = 1 then c :: bitsL cs (n / 2) else bitsL cs (n / 2)
theorem bitsL_cons (c : Nat) (cs : List Nat) (n : Int) : bitsL (c :: cs) n = if n % 2 = 1 then c :: bitsL cs (n / 2) else bitsL cs (n / 2) := rfl
theorem bitsL_sub : ∀ (cs : List Nat) (n : Int), (bitsL cs n).Sublist cs
  | [], _ => .slnil
  | c :: cs, n => by
    unfold bitsL
    split
    · exact .cons₂ _ (bitsL_sub cs _)
    · exact .cons _ (bitsL_sub cs _)
theorem bitsL_ne : ∀ (cs : List Nat) (n : Int), 0 < n → n < 2 ^ cs.length → bitsL cs n ≠ []
  | [], n, h, h' => by simp at h'; omega
  | c :: cs, n, h, h' => by
    unfold bitsL
    split
    · exact List.cons_ne_nil _ _
    · refine bitsL_ne cs _ (by omega) ?_
      rw [List.length_cons, Int.pow_succ] at h'
      omega
def sp_bits : Sp := fun vs H Q _ => ∃ (x : Str) (n : Int), vs = [.str x, .int n] ∧ 0 ≤ n ∧ x.cps.size ≤ 8 ∧ Q (.str ⟨(bitsL x.cps.toList n).toArray⟩) H
theorem app_str (F : List Nat) (c : Nat) : (⟨F.toArray⟩ : Str) ++ (⟨#[c]⟩ : Str) = ⟨(F ++ [c]).toArray⟩ := by
  show (⟨F.toArray ++ #[c]⟩ : Str) = _
  simp
theorem drop_at {cs : List Nat} {i c : Nat} (h : cs[i]? = some c) : cs.drop i = c :: cs.drop (i + 1) := by
  obtain ⟨h1, h2⟩ := List.getElem?_eq_some_iff.mp h
  rw [List.drop_eq_getElem_cons h1, h2]
theorem ok_bits (T : Txt K mg t) : FnOk P w K mg base (CXr P w) 1 t.f_bits t.d_bits p_bits sp_bits := by
  refine T.F_bits.okN sc_bits (fun vs H Q E h => ?_) (fun cdv A outer s H vs Q E hr h => ?_)
  · obtain ⟨x, n, rfl, _⟩ := h
    rfl
  · obtain ⟨x, n, rfl, hn, hx, q⟩ := h
    refine ⟨_, pss_cons (ps_set (i := 2) sc_bits.nd rfl (Or.inl rfl) pe_str)
      (pss_cons (ps_for PassesOwn.never rfl (pi_str (pv 0)) (pg_name (i := 3) sc_bits.nd rfl (Or.inl rfl))
        (pss_cons (ps_if (pt_cmpR op_eq (pe_op op_mod (pv 1) pe_int) pe_int (nomark _)) (pss_one (ps_set (i := 2) sc_bits.nd rfl (Or.inl rfl) (pe_op op_add_str (pv 2) (pv 3)))) pss_nil)
        (pss_one (ps_set (i := 1) sc_bits.nd rfl (Or.inl rfl) (pe_op op_fdiv (pv 1) pe_int)))))
      (pss_one (ps_ret (pv 2)))), ?_⟩
    refine ⟨_, rfl, x, rfl, ?_⟩
    refine for_str (x := x) (fun i σ H' => H' = H ∧ ∃ (n' : Int) (F : List Nat) (o : Option V), σ = [some (.str x), some (.int n'), some (.str ⟨F.toArray⟩), o] ∧ 0 ≤ n' ∧ F.length ≤ i ∧ F ++ bitsL (x.cps.toList.drop i) n' = bitsL x.cps.toList n)
      ⟨rfl, n, [], _, rfl, hn, Nat.le_refl _, rfl⟩ (fun i c σ H' hc p => ?_) (fun σ H' p => ?_)
    · obtain ⟨rfl, n', F, o, rfl, h0, hF, e⟩ := p
      have hi : i < x.cps.size := (Array.getElem?_eq_some_iff.mp hc).1
      rw [drop_at (by rw [Array.getElem?_toList]; exact hc)] at e
      rw [bitsL_cons] at e
      refine ⟨_, rfl, _, _, rfl, rfl, (by show (0 : Int) < 2; decide), rfl, _, rfl, ?_⟩
      have hd : ∀ G : List Nat, G.length ≤ i + 1 → G ++ bitsL (x.cps.toList.drop (i + 1)) (n' / 2) = bitsL x.cps.toList n →
          ∃ (n'' : Int) (F : List Nat) (o : Option V), [some (.str x), some (V.int (n' / 2)), some (.str ⟨G.toArray⟩), some (sgn c)] = [some (.str x), some (.int n''), some (.str ⟨F.toArray⟩), o] ∧ 0 ≤ n'' ∧ F.length ≤ i + 1 ∧ F ++ bitsL (x.cps.toList.drop (i + 1)) n'' = bitsL x.cps.toList n :=
        fun G hG eG => ⟨_, G, _, rfl, by omega, hG, eG⟩
      refine ite2 (fun hm => ?_) (fun hm => ?_)
      · have hm : n' % 2 = 1 := V.int.inj (of_decide_eq_true hm)
        rw [if_pos hm] at e
        refine ⟨_, rfl, _, rfl, _, _, rfl, rfl, ?_, ?_⟩
        · show F.toArray.size + 1 ≤ sizeLine
          rw [List.size_toArray, sizeLine_eq]
          omega
        · rw [app_str]
          exact ⟨_, rfl, _, _, rfl, rfl, ⟨by decide, by decide⟩, rfl, hd _ (by simp; omega) (by rw [List.append_assoc]; exact e)⟩
      · have hm : ¬ n' % 2 = 1 := fun z => hm (decide_eq_true (congrArg V.int z))
        rw [if_neg hm] at e
        exact ⟨_, rfl, _, _, rfl, rfl, ⟨by decide, by decide⟩, rfl, hd _ (by omega) e⟩
    · obtain ⟨rfl, n', F, o, rfl, h0, hF, e⟩ := p
      rw [← Array.length_toList, List.drop_length] at e
      rw [show bitsL [] n' = [] from rfl, List.append_nil] at e
      subst e
      exact ⟨_, rfl, q⟩

/-! ### the head -/
theorem filter_mem {l cs : List Nat} (h : cs.Sublist l) (nd : l.Nodup) : l.filter (fun c => decide (c ∈ cs)) = cs := by
  induction h with
  | slnil => rfl
  | @cons cs l a h ih =>
    have na : a ∉ cs := fun z => (List.nodup_cons.mp nd).1 (h.subset z)
    rw [List.filter_cons_of_neg (by simpa using na)]
    exact ih (List.nodup_cons.mp nd).2
  | @cons_cons cs l a h ih =>
    rw [List.filter_cons_of_pos (by simp)]
    congr 1
    rw [← ih (List.nodup_cons.mp nd).2]
    refine List.filter_congr fun b hb => ?_
    rw [ih (List.nodup_cons.mp nd).2]
    have ne : b ≠ a := fun z => (List.nodup_cons.mp nd).1 (z ▸ hb)
    simp [ne]
theorem isSet_sub {cs : List Nat} (h : cs.Sublist cols) : isSet ⟨cs.toArray⟩ = true := by
  refine decide_eq_true ?_
  show (⟨cs.toArray⟩ : Str) = ⟨(cols.filter fun c => decide (c ∈ cs)).toArray⟩
  rw [filter_mem h (by decide)]
theorem sub_isSet {x : Str} (h : isSet x = true) : x.cps.toList.Sublist cols := by
  have e : x = setOf x := of_decide_eq_true h
  rw [e]
  exact List.filter_sublist
theorem isSet_of_sub {x : Str} {cs : List Nat} (h : cs.Sublist x.cps.toList) (hx : isSet x = true) : isSet ⟨cs.toArray⟩ = true := isSet_sub (h.trans (sub_isSet hx))
def sp_head : Sp := fun vs H Q _ => ∃ p : Addr, vs = [.ref p] ∧ StAt H p ∧ ∀ (x : Str) H', isSet x = true → x.cps.toList ≠ [] → Mv p H H' → Q (.str x) H'
theorem ok_head (T : Txt K mg t) : FnOk P w K mg base (CXr P w) 2 t.f_head t.d_head p_head sp_head := by
  refine T.F_head.okN sc_head (fun vs H Q E h => ?_) (fun cdv A outer s H vs Q E hr h => ?_)
  · obtain ⟨p, rfl, _⟩ := h
    rfl
  · obtain ⟨p, rfl, hst, q⟩ := h
    refine ⟨_, pss_cons (ps_set (i := 1) sc_head.nd rfl (Or.inl rfl) (pe_callX (ok_choice T) hr (by rfl) T.m_choice T.F_choice.kp T.b_choice .nil xok0 (pa_cons (pv 0) (pa_cons pe_int pa_nil))))
      (pss_cons (ps_if (pt_cmpR op_eq (pv 1) pe_int (nomark _)) (pss_one (ps_ret pe_str)) pss_nil)
      (pss_one (ps_ret (pe_callX (ok_bits T) hr (by rfl) T.m_bits T.F_bits.kp T.b_bits .nil xok0 (pa_cons pe_str (pa_cons (pe_op op_add pe_int (pe_callX (ok_choice T) hr (by rfl) T.m_choice T.F_choice.kp T.b_choice .nil xok0 (pa_cons (pv 0) (pa_cons pe_int pa_nil)))) pa_nil)))))), ?_⟩
    refine ⟨_, rfl, p, 4, rfl, hst, by decide, by decide, fun r H1 r0 r1 m1 => ?_⟩
    refine ⟨_, rfl, rfl, _, rfl, ?_⟩
    refine ite2 (fun _ => q _ _ (by decide +kernel) (by decide +kernel) m1) (fun _ => ?_)
    refine ⟨_, rfl, p, 255, rfl, m1.st, by decide, by decide, fun r2 H2 r20 r21 m2 => ⟨_, _, rfl, rfl, _, _, rfl, by omega, by decide +kernel, ?_⟩⟩
    refine q _ _ (isSet_of_sub (x := "abcdefgh") (bitsL_sub _ _) (by decide +kernel)) ?_ (m1.trans m2)
    exact bitsL_ne _ _ (by omega) (by rw [colsText]; show _ < (2 : Int) ^ 8; omega)
end M

set_option Elab.async false
set_option linter.all false
set_option maxRecDepth 100000
set_option maxHeartbeats 4000000
namespace M
open PySem PySem.Spec PyProof.Rows L2
variable {P : Program} {w : World} {K : PySem.W.Frag} {mg : Str → Option Value} {base : Heap} {t : Adr}

/-! ### any columns of a head -/
theorem Mv.keep {p : Addr} {H H' : Hp} (m : Mv p H H') {b : Addr} {o : HO} (hb : H b = some o) (hne : b ≠ p) : H' b = some o := m.sm b o hne hb
def sp_pick : Sp := fun vs H Q _ => ∃ (p : Addr) (x : Str), vs = [.ref p, .str x] ∧ StAt H p ∧ isSet x = true ∧ x.cps.toList ≠ [] ∧ ∀ (cs : List Nat) H', cs.Sublist x.cps.toList → Mv p H H' → Q (.str ⟨cs.toArray⟩) H'
theorem ok_pick (T : Txt K mg t) : FnOk P w K mg base (CXr P w) 2 t.f_pick t.d_pick p_pick sp_pick := by
  refine T.F_pick.okN sc_pick (fun vs H Q E h => ?_) (fun cdv A outer s H vs Q E hr h => ?_)
  · obtain ⟨p, x, rfl, _⟩ := h
    rfl
  · obtain ⟨p, x, rfl, hst, hx, hne, q⟩ := h
    refine ⟨_, pss_cons (ps_if (pt_cmpR op_eq (pe_callX (ok_choice T) hr (by rfl) T.m_choice T.F_choice.kp T.b_choice .nil xok0 (pa_cons (pv 0) (pa_cons pe_int pa_nil))) pe_int (nomark _))
        (pss_one (ps_ret (pe_callX (ok_bits T) hr (by rfl) T.m_bits T.F_bits.kp T.b_bits .nil xok0 (pa_cons (pv 1) (pa_cons (pe_callX (ok_choice T) hr (by rfl) T.m_choice T.F_choice.kp T.b_choice .nil xok0 (pa_cons (pv 0) (pa_cons pe_int pa_nil))) pa_nil))))) pss_nil)
      (pss_cons (ps_set (i := 2) sc_pick.nd rfl (Or.inr rfl) (pe_lc (own := [("_law_turn", 3)]) (g := gName 3) (by rfl) sc_pick.nd
          (pi_range1 rfl T.n_range (pa_cons (pe_callX (ok_choice T) hr (by rfl) T.m_choice T.F_choice.kp T.b_choice .nil xok0 (pa_cons (pv 0) (pa_cons pe_int pa_nil))) pa_nil))
          (blkOk_by (own := [("_law_turn", 3)]) (N := N_pick) (sc := defScope s_pick) (by decide +kernel))
          (fun _ _ _ _ _ => pg_name (i := 3) sc_pick.nd rfl (Or.inl rfl)) (fun _ _ _ _ _ => pts_nil)
          (fun _ _ _ _ _ => pe_item_str (pv 1) (pe_callX (ok_choice T) hr (by rfl) T.m_choice T.F_choice.kp T.b_choice .nil xok0 (pa_cons (pv 0) (pa_cons (pe_callB call_len_str (by rfl) T.n_len PySem.boot_len (pa_cons (pv 1) pa_nil)) pa_nil))) (fun _ _ => rfl))))
      (pss_one (ps_ret (pe_join pe_str (pe_lc (own := [("_law_column", 4)]) (g := gName 4) (by rfl) sc_pick.nd (pi_str (pv 1)) (blkOk_by (own := [("_law_column", 4)]) (N := N_pick) (sc := defScope s_pick) (by decide +kernel))
        (fun _ _ _ _ _ => pg_name (i := 4) sc_pick.nd rfl (Or.inl rfl)) (fun _ _ _ _ _ => pts_one (pt_cmpR (show OpR _ _ (rIn K false) from op_in_seq) (pv 4) (pv 2) rfl)) (fun _ _ _ _ _ => pv 4)))))), ?_⟩
    have hl := isSet_len hx
    rw [Array.length_toList] at hl
    have hpos : 0 < x.cps.size := by
      rcases Nat.eq_zero_or_pos x.cps.size with e | e
      · exact absurd (List.length_eq_zero_iff.mp (by rw [Array.length_toList]; exact e)) hne
      · exact e
    refine ⟨_, rfl, p, 3, rfl, hst, by decide, by decide, fun r H1 r0 r1 m1 => ⟨rfl, _, rfl, ?_⟩⟩
    refine ite2 (fun _ => ?_) (fun _ => ?_)
    · refine ⟨_, rfl, _, rfl, p, 256, rfl, m1.st, by decide, by decide, fun r2 H2 r20 r21 m2 => ?_⟩
      exact ⟨x, r2, rfl, r20, hl, q _ _ (bitsL_sub _ _) (m1.trans m2)⟩
    · refine ⟨_, rfl, p, 3, rfl, m1.st, by decide, by decide, fun r2 H2 r20 r21 m2 => ?_⟩
      refine ⟨r2, rfl, by omega, by omega, fun D hD => ?_⟩
      have hDp : D ≠ p := fun z => by
        obtain ⟨_, _, _, e, _⟩ := m2.st.ex
        rw [z, e] at hD; cases hD
      refine lc_range (lo := 0) (n := r2.toNat) (fun i H' => ∃ fs : List Nat, H' D = some (.lst (fs.map sgn)) ∧ fs.length ≤ i ∧ Mv p H2 H') ⟨[], upd_same, Nat.le_refl _, m2.st.same (same_new hD)⟩ (fun i H' hi pv => ?_) (fun H' pv => ?_)
      · obtain ⟨fs, hf, hfl, m3⟩ := pv
        refine ⟨rfl, ?_⟩
        refine yes ?_
        refine iteT ?_
        refine ⟨_, rfl, _, rfl, _, rfl, x, rfl, (by rw [sizeLine_eq]; show x.cps.size ≤ _; omega), p, _, rfl, m3.st, (by show (0 : Int) < (x.cps.size : Int); omega), (by show ((x.cps.size : Nat) : Int) < 1073741824; omega), fun r3 H4 r30 r31 m4 => ?_⟩
        have r31 : r3 < (x.cps.size : Int) := r31
        obtain ⟨j, rfl⟩ : ∃ j : Nat, r3 = (j : Int) := ⟨r3.toNat, by omega⟩
        have hj : j < x.cps.size := by omega
        refine ⟨x, (j : Int), x.cps[j], rfl, rfl, r30, by omega, r31, by simp [hj], ?_⟩
        have hf4 := m4.keep hf hDp
        refine ⟨_, hf4, by rw [List.length_map, sizeLine_eq]; omega, fs ++ [x.cps[j]], by rw [List.map_append]; exact upd_same, by simp; omega, ?_⟩
        have m5 := m3.trans m4
        refine ⟨?_, fun b o hb hh => ?_⟩
        · obtain ⟨a1, a2, a3, e, r⟩ := m5.st.ex
          exact ⟨a1, a2, a3, by rw [upd_ne (Ne.symm hDp)]; exact e, r⟩
        · rw [upd_ne (ne_of_none hh hD)]
          exact m5.sm b o hb hh
      · obtain ⟨fs, hf, hfl, m3⟩ := pv
        refine ⟨⟨_, rfl⟩, _, rfl, x, rfl, fun D2 hD2 => ?_⟩
        have hne2 : D ≠ D2 := ne_of_none hf hD2
        refine lc_str (x := x) (keepF fun c => inV (sgn c) (fs.map sgn)) (by rw [sizeLine_eq]; omega) (fun c hc acc N hz hn hy => ?_) ?_
        · refine ⟨rfl, _, rfl, _, rfl, D, _, rfl, .inl (SqL.of (by rw [upd_ne hne2]; exact hf)), rfl, (by simp [flatV]), _, rfl, ?_⟩
          rw [keepF_sgn] at hn hy
          refine ite2 (fun hin => ?_) (fun hin => ?_)
          · have hin : inV (sgn c) (fs.map sgn) = true := hin
            rw [if_pos hin] at hy
            exact ⟨_, rfl, acc, upd_same, hz, by rw [upd_upd]; exact hy _ rfl⟩
          · have hin : ¬ inV (sgn c) (fs.map sgn) = true := hin
            rw [if_neg hin] at hn
            exact hn rfl
        · have e : (sgns x).filterMap (keepF fun c => inV (sgn c) (fs.map sgn)) = ((x.cps.toList.filter fun c => inV (sgn c) (fs.map sgn)).map fun c => (⟨#[c]⟩ : Str)).map V.str := by
            rw [← map_str_sgn, ← filterMap_sgn x.cps.toList _ (keepF fun c => inV (sgn c) (fs.map sgn)) fun c _ => keepF_sgn _ c]
          rw [e]
          refine ⟨_, D2, _, rfl, rfl, .inl (SqL.of upd_same), ?_, ?_⟩
          · show _ + _ * (⟨#[]⟩ : Str).length ≤ _
            rw [len_sgns]
            have := List.length_filter_le (fun c => inV (sgn c) (fs.map sgn)) x.cps.toList
            have := isSet_len hx
            omega
          · show Q (.str (Txt.join ⟨#[]⟩ _)) _
            rw [join_sgns]
            exact q _ _ List.filter_sublist (((m1.trans m2).trans m3).same (same_new hD2))
end M

set_option Elab.async false
set_option linter.all false
set_option maxRecDepth 100000
set_option maxHeartbeats 4000000
namespace M
open PySem PySem.Spec PyProof.Rows L2
variable {P : Program} {w : World} {K : PySem.W.Frag} {mg : Str → Option Value} {base : Heap} {t : Adr}

/-! ### hangings as they lie -/
end M

set_option Elab.async false
set_option linter.all false
set_option maxRecDepth 100000
set_option maxHeartbeats 4000000
namespace M
open PySem PySem.Spec PyProof.Rows L2
variable {P : Program} {w : World} {K : PySem.W.Frag} {mg : Str → Option Value} {base : Heap} {t : Adr}

/-! ### covers, as they are due -/
theorem set_ext {x y : Str} (hx : isSet x = true) (hy : isSet y = true) (h : ∀ c, c ∈ x.cps.toList ↔ c ∈ y.cps.toList) : x = y := by
  have ex : x = setOf x := of_decide_eq_true hx
  have ey : y = setOf y := of_decide_eq_true hy
  rw [ex, ey]
  unfold setOf
  congr 2
  exact List.filter_congr fun c _ => by simp only [h c]
theorem setOf_mem (x : Str) (c : Nat) : c ∈ (setOf x).cps.toList ↔ c ∈ cols ∧ c ∈ x.cps.toList := by
  show c ∈ (cols.filter fun c => decide (c ∈ x.cps.toList)) ↔ _
  rw [List.mem_filter]
  simp
theorem isSet_setOf (x : Str) : isSet (setOf x) = true := isSet_sub (cs := cols.filter fun c => decide (c ∈ x.cps.toList)) List.filter_sublist
/-- one sign -/
abbrev sg (c : Nat) : Str := ⟨#[c]⟩
theorem perm_nodup : ∀ {l₁ l₂ : List Nat}, l₁.Nodup → l₂.Nodup → (∀ c, c ∈ l₁ ↔ c ∈ l₂) → l₁.Perm l₂ := by
  intro l₁ l₂ h1 h2 h
  rw [List.perm_iff_count]
  intro c
  rw [h1.count, h2.count]
  simp only [h c]
theorem liesB_iff {x y : Str} : liesB x y = true ↔ ∀ c ∈ x.cps.toList, c ∈ y.cps.toList := by
  unfold liesB
  rw [List.all_eq_true]
  simp
end M

set_option Elab.async false
set_option linter.all false
set_option maxRecDepth 100000
set_option maxHeartbeats 4000000
namespace M
open PySem PySem.Spec PyProof.Rows L2
variable {P : Program} {w : World} {K : PySem.W.Frag} {mg : Str → Option Value} {base : Heap} {t : Adr}

/-! ### the cover, right by right -/
end M

set_option Elab.async false
set_option linter.all false
set_option maxRecDepth 100000
set_option maxHeartbeats 4000000
namespace M
open PySem PySem.Spec PyProof.Rows L2
variable {P : Program} {w : World} {K : PySem.W.Frag} {mg : Str → Option Value} {base : Heap} {t : Adr}

/-! ### the cover, as one text -/
end M

set_option Elab.async false
set_option linter.all false
set_option maxRecDepth 100000
set_option maxHeartbeats 4000000
namespace L2
open PySem PySem.Spec PyProof.Rows
end L2
namespace M
open PySem PySem.Spec PyProof.Rows L2
variable {P : Program} {w : World} {K : PySem.W.Frag} {mg : Str → Option Value} {base : Heap} {t : Adr}

/-! ### books, as the program knows them -/
theorem set_of_sub {x y : Str} (h : y.cps.toList.Sublist x.cps.toList) (hx : isSet x = true) : isSet y = true := isSet_of_sub (cs := y.cps.toList) h hx
end M

set_option Elab.async false
set_option linter.all false
set_option maxRecDepth 100000
set_option maxHeartbeats 4000000
namespace M
open PySem PySem.Spec PyProof.Rows L2
variable {P : Program} {w : World} {K : PySem.W.Frag} {mg : Str → Option Value} {base : Heap} {t : Adr}

end M

set_option Elab.async false
set_option linter.all false
set_option maxRecDepth 100000
set_option maxHeartbeats 4000000
namespace M
open PySem PySem.Spec PyProof.Rows L2
variable {P : Program} {w : World} {K : PySem.W.Frag} {mg : Str → Option Value} {base : Heap} {t : Adr}

/-! ### books and numbers as data -/
/-- small data: the size of a text is at most 8, all signs are columns -/
def Small (x : Str) : Prop := x.cps.size ≤ 8 ∧ ∀ c ∈ x.cps.toList, c ∈ cols
theorem small_set {x : Str} (h : isSet x = true) : Small x := by
  have := isSet_len h
  rw [Array.length_toList] at this
  exact ⟨this, fun c hc => (sub_isSet h).subset hc⟩
theorem col_small {c : Nat} (h : c ∈ cols) : c < 16 ^ 8 := by
  have : ∀ c ∈ cols, c < 16 ^ 8 := by decide
  exact this c h
/-- what repr and == want of a datum -/
structure Fine (d : PyData) (n k : Nat) : Prop where
  sh : PyData.leavesShort 8 d = true
  lay : PyData.canLay0 d = true
  abl : PyData.showable d = true
  dp : PyData.depth d ≤ k
  bu : PyData.bulk d ≤ n
structure FineAll (ds : List PyData) (n k : Nat) : Prop where
  sh : PyData.leavesShortAll 8 ds = true
  lay : PyData.canLayAll0 ds = true
  abl : PyData.showableAll ds = true
  dp : PyData.depthAll ds ≤ k
  bu : PyData.bulkAll ds ≤ n
theorem FineAll.nil (k : Nat) : FineAll [] 0 k := ⟨rfl, rfl, rfl, by simp [PyData.depthAll], by simp [PyData.bulkAll]⟩
theorem FineAll.cons {d : PyData} {ds : List PyData} {n m k : Nat} (a : Fine d n k) (b : FineAll ds m k) : FineAll (d :: ds) (n + 1 + m) k := by
  have h1 := a.dp
  have h2 := b.dp
  have h3 := a.bu
  have h4 := b.bu
  refine ⟨?_, ?_, ?_, ?_, ?_⟩
  · rw [PyData.leavesShortAll, a.sh, b.sh]; rfl
  · rw [PyData.canLayAll0, a.lay, b.lay]; rfl
  · rw [PyData.showableAll, a.abl, b.abl]; rfl
  · rw [PyData.depthAll]; omega
  · rw [PyData.bulkAll]; omega
theorem FineAll.tup {ds : List PyData} {n k : Nat} (a : FineAll ds n k) : Fine (.tuple ds) n (k + 1) := by
  have h1 := a.dp
  refine ⟨by rw [PyData.leavesShort]; exact a.sh, by rw [PyData.canLay0]; exact a.lay, by rw [PyData.showable]; exact a.abl, by rw [PyData.depth]; omega, by rw [PyData.bulk]; exact a.bu⟩
theorem FineAll.lst {ds : List PyData} {n k : Nat} (a : FineAll ds n k) : Fine (.list ds) n (k + 1) := by
  have h1 := a.dp
  refine ⟨by rw [PyData.leavesShort]; exact a.sh, by rw [PyData.canLay0]; exact a.lay, by rw [PyData.showable]; exact a.abl, by rw [PyData.depth]; omega, by rw [PyData.bulk]; exact a.bu⟩
theorem fine_text {x : Str} (h : Small x) (k : Nat) : Fine (.str x) 8 k := by
  refine ⟨?_, ?_, rfl, by simp [PyData.depth], by rw [PyData.bulk]; exact h.1⟩
  · simp only [PyData.leavesShort, List.all_eq_true, decide_eq_true_eq]
    exact fun c hc => col_small (h.2 c hc)
  · simp only [PyData.canLay0, PyData.strOk, Array.all_eq_true', decide_eq_true_eq]
    intro c hc
    have h1 := h.2 c (by simpa using hc)
    have : ∀ c ∈ cols, c < 1114112 := by decide
    exact this c h1
def Shows (d : PyData) : Prop := d.showable = true ∧ d.hasDict = false ∧ d.depth ≤ 20 ∧ d.shown.length ≤ sizeLine
theorem Fine.shows {d : PyData} {n k : Nat} (a : Fine d n k) (hn : n ≤ 1000) (hk : k ≤ 20) : Shows d :=
  ⟨a.abl, PyData.hasDict_of_canLay d a.lay, Nat.le_trans a.dp hk, PyData.shown_fits_bulk (Nat.le_refl _) (by decide) a.sh (Nat.le_trans a.bu (Nat.le_trans hn (by decide)))⟩
theorem Fine.shaped {d : PyData} {n k : Nat} (a : Fine d n k) (hk : k ≤ 64) : SeqAt.shaped d = true := by
  unfold SeqAt.shaped
  rw [a.lay, decide_eq_true (Nat.le_trans a.dp hk)]
  rfl
end M

set_option Elab.async false
set_option linter.all false
set_option maxRecDepth 100000
set_option maxHeartbeats 4000000
namespace L2
open PySem PySem.Spec PyProof.Rows
end L2
namespace M
open PySem PySem.Spec PyProof.Rows L2
variable {P : Program} {w : World} {K : PySem.W.Frag} {mg : Str → Option Value} {base : Heap} {t : Adr}
def sp_same (K : PySem.W.Frag) : Sp := fun vs H Q _ => ∃ v1 v2 d1 d2, vs = [v1, v2] ∧ Dp K H v1 d1 ∧ Dp K H v2 d2 ∧ Shows d1 ∧ Shows d2 ∧ Q (.bl (decide (d1.shown = d2.shown))) H
theorem ok_same (T : Txt K mg t) : FnOk P w K mg base (CXr P w) 1 t.f_same t.d_same p_same (sp_same K) := by
  refine T.F_same.okN sc_same (fun vs H Q E h => ?_) (fun cdv A outer s H vs Q E hr h => ?_)
  · obtain ⟨v1, v2, d1, d2, rfl, _⟩ := h
    rfl
  · obtain ⟨v1, v2, d1, d2, rfl, h1, h2, ⟨a1, a2, a3, a4⟩, ⟨b1, b2, b3, b4⟩, q⟩ := h
    refine ⟨_, pss_one (ps_ret (pe_cmpR op_eq (pe_callB (call_repr hr.gd hr.units) (by rfl) T.n_repr (by decide +kernel) (pa_cons (pv 0) pa_nil)) (pe_callB (call_repr hr.gd hr.units) (by rfl) T.n_repr (by decide +kernel) (pa_cons (pv 1) pa_nil)) (nomark _))), ?_⟩
    refine ⟨_, rfl, v1, d1, rfl, h1, a1, a2, a3, a4, _, rfl, v2, d2, rfl, h2, b1, b2, b3, b4, rfl, ?_⟩
    show Q (.bl (decide (V.str d1.shown = V.str d2.shown))) H
    rw [deS]
    exact q
end M

set_option Elab.async false
set_option linter.all false
set_option maxRecDepth 100000
set_option maxHeartbeats 4000000
namespace M
open PySem PySem.Spec PyProof.Rows L2
variable {P : Program} {w : World} {K : PySem.W.Frag} {mg : Str → Option Value} {base : Heap} {t : Adr}
end M

set_option Elab.async false
set_option linter.all false
set_option maxRecDepth 100000
set_option maxHeartbeats 4000000
namespace M
open PySem PySem.Spec PyProof.Rows L2
variable {P : Program} {w : World} {K : PySem.W.Frag} {mg : Str → Option Value} {base : Heap} {t : Adr}
/-! ### a cover that is grown, set by set -/
end M

set_option Elab.async false
set_option linter.all false
set_option maxRecDepth 100000
set_option maxHeartbeats 4000000
namespace L2
open PySem PySem.Spec PyProof.Rows
section
variable {prog : Program} {w : World} {A : Around} {E : Value → Shared → Prop} {s : Shared}
/-! ### a range, turned about -/
end
section
variable {X : Cx} {tg : Expr}
end
end L2

set_option Elab.async false
set_option linter.all false
set_option maxRecDepth 100000
set_option maxHeartbeats 4000000
namespace M
open PySem PySem.Spec PyProof.Rows L2
variable {P : Program} {w : World} {K : PySem.W.Frag} {mg : Str → Option Value} {base : Heap} {t : Adr}

/-! ### what follows, as the program has it -/
end M

set_option Elab.async false
set_option linter.all false
set_option maxRecDepth 100000
set_option maxHeartbeats 4000000
namespace M
open PySem PySem.Spec PyProof.Rows L2
variable {P : Program} {w : World} {K : PySem.W.Frag} {mg : Str → Option Value} {base : Heap} {t : Adr}
end M

set_option Elab.async false
set_option linter.all false
set_option maxRecDepth 100000
set_option maxHeartbeats 4000000
namespace L2
open PySem PySem.Spec PyProof.Rows
/-- a display of written texts -/
def strsOf : List Expr → Option (List Str)
  | [] => some []
  | .Constant (.str z) _ _ :: r => (strsOf r).map (z :: ·)
  | _ => none
def tStrs (zs : List Str) : TA := fun _ H Q => Q (zs.map V.str) H
theorem pa_strs {X : Cx} : ∀ {es : List Expr} {zs : List Str}, strsOf es = some zs → PA X es (tStrs zs)
  | [], zs, h => by
    have h : some [] = some zs := h
    cases h
    exact pa_nil
  | .Constant (.str z) j p :: r, zs, h => by
    have h : (strsOf r).map (z :: ·) = some zs := h
    obtain ⟨ys, e, rfl⟩ := Option.map_eq_some_iff.mp h
    have a := pa_cons (X := X) (pe_str (x := z) (j := j) (pos := p)) (pa_strs (X := X) e) rfl
    intro pos pins s σ H Q I q
    exact a pos pins s σ H Q I q
end L2
namespace L2
open PySem PySem.Spec PyProof.Rows
/-- try: body / except C0 as n: suite; the readings may speak of the pins and the exception -/
def tTryP (tb : List (Addr × Obj) → TW → TS) (sub : Addr → Prop) (i : Nat) (th : List (Addr × Obj) → Addr → TS) : TS := tTry (fun W D σ H => ∀ pins, tb pins W D σ H) sub i fun D σ H => ∀ pins e, th pins e D σ H
theorem ps_tryP {X : Cx} {C0 : Addr} {x n : Str} {np hpos pos : Pos} {body suite : List Stmt} {b0 : Stmt} {tb : List (Addr × Obj) → TW → TS} {th : List (Addr × Obj) → Addr → TS} {i : Nat}
    (hC0 : excAny X.K C0 = true) (hst : X.stack = X.env :: X.outer ∧ X.env.frame = some X.env.locals) (hex : X.ex = []) (hN : X.N.Nodup) (hi : X.N[i]? = some n) (hln : X.env.scope.names.lookup n = some .local)
    (hg : Gl X x) (hm : X.mg x = some (.ref C0)) (hb : ∀ pins W, PSs (tryCx X pins W) body (tb pins W)) (hh : ∀ pins e, PSs (hdCx X pins e) (b0 :: suite) (th pins e)) (hdb : (x == ("__debug__" : Str)) = false := by decide) :
    PS X (.Try body [.ExceptHandler (some (.Name x np)) (some n) (b0 :: suite) hpos] [] [] pos) (tTryP tb (fun C => excAny X.K C = true ∧ subX X.K C C0 = true) i th) :=
  ps_try hC0 hst hex hN hi hln hg hm (fun pins W p s σ H D I h => hb pins W p s σ H D I (h pins)) (fun pins e p s σ H D I h => hh pins e p s σ H D I (h pins e)) hdb
end L2
namespace L2
open PySem PySem.Spec PyProof.Rows
/-- a block, shut: Lean does not look into it while it reads a derivation (a display of many constants would be run) -/
structure PSsW (X : Cx) (st : List Stmt) (t : TS) : Prop where
  go : PSs X st t
section
variable {X : Cx} {st : Stmt} {rest : List Stmt} {t u : TS}
theorem pssw_cons (h1 : PS X st t) (h2 : PSsW X rest u) : PSsW X (st :: rest) (tSeq t u) := ⟨pss_cons h1 h2.go⟩
theorem pssw_one (h1 : PS X st t) : PSsW X [st] t := ⟨pss_one h1⟩
theorem pssw_setS {i : Nat} {x : Str} {es : List Expr} {lp pos pos' : Pos} {zs : List Str} (hN : X.N.Nodup) (hi : X.N[i]? = some x) (hx : Loc X.env.scope x) (hf : X.fn x = true ∨ X.env.scope.names.lookup x = some .local) (he : strsOf es = some zs) (h2 : PSsW X rest u) :
    PSsW X (.Assign [.Name x pos'] (.List es lp) pos :: rest) (tSeq (tAsg (tLst (tStrs zs)) (gName i)) u) := ⟨pss_cons (ps_set hN hi hx (pe_lst (pa_strs he)) rfl hf) h2.go⟩
theorem ps_tryW {C0 : Addr} {x n : Str} {np hpos pos : Pos} {body suite : List Stmt} {b0 : Stmt} {tb : List (Addr × Obj) → TW → TS} {th : List (Addr × Obj) → Addr → TS} {i : Nat}
    (hC0 : excAny X.K C0 = true) (hst : X.stack = X.env :: X.outer ∧ X.env.frame = some X.env.locals) (hex : X.ex = []) (hN : X.N.Nodup) (hi : X.N[i]? = some n) (hln : X.env.scope.names.lookup n = some .local)
    (hg : Gl X x) (hm : X.mg x = some (.ref C0)) (hb : ∀ pins W, PSs (tryCx X pins W) body (tb pins W)) (hh : ∀ pins e, PSsW (hdCx X pins e) (b0 :: suite) (th pins e)) (hdb : (x == ("__debug__" : Str)) = false := by decide) :
    PS X (.Try body [.ExceptHandler (some (.Name x np)) (some n) (b0 :: suite) hpos] [] [] pos) (tTryP tb (fun C => excAny X.K C = true ∧ subX X.K C C0 = true) i th) :=
  ps_tryP hC0 hst hex hN hi hln hg hm hb (fun pins e => (hh pins e).go) hdb
end
end L2

set_option Elab.async false
set_option linter.all false
set_option maxRecDepth 100000
set_option maxHeartbeats 4000000
namespace M
open PySem PySem.Spec PyProof.Rows L2
variable {P : Program} {w : World} {K : PySem.W.Frag} {mg : Str → Option Value} {base : Heap} {t : Adr}
/-! ### the marks of a refusal -/
/-- the classes of refusals, in the order of the marks -/
def Adr.cls (t : Adr) : List Addr := [t.c_NoSet, t.c_NoBook, t.c_NoHanging, t.c_Unlike, t.c_NoTable, t.c_NoSplit, t.c_NoRow, t.c_NoColumn, t.c_NoNumber, t.c_NoGiven, t.c_There, t.c_Gone, t.c_NoDeeds, t.c_NoDeed, t.c_NoText, t.c_NoLine, t.c_NoName, t.c_TooWide, t.c_TooMany, t.c_Broken]
theorem kit_exc {C D : Addr} {l : List Value} (hm : (PySem.W.clsIn K C).map (·.mro) = some l) (hl : l.isEmpty = false) (hy : PySem.W.typeIn K (.ref D) = some (.type "type")) (hD : (PySem.W.clsIn K D).isSome = true) :
    PySem.W.kitOne K (.ref C) (.ref D) = some (decide (C = D) || l.contains (.ref D)) := by
  by_cases e : C = D
  · subst e
    unfold PySem.W.kitOne
    rw [if_pos (by simp)]
    simp
  · have ne : (Value.ref C == Value.ref D) = false := by simp [e]
    unfold PySem.W.kitOne PySem.W.kitCls
    rw [if_neg (by rw [ne]; exact Bool.false_ne_true)]
    show (if ((PySem.W.clsIn K D).isSome && PySem.W.typeIn K (Value.ref D) == some (Value.type "type")) = true then PySem.W.subIn K (Value.ref C) (Value.ref D) else none) = _
    rw [if_pos (by rw [hD, hy]; simp)]
    show PySem.W.mroIn K C (.ref D) = _
    unfold PySem.W.mroIn
    obtain ⟨cd, h1, h2⟩ := Option.map_eq_some_iff.mp hm
    rw [h1, Option.bind_some, h2, if_neg (by rw [hl]; exact Bool.false_ne_true)]
    simp [e]
theorem kit_val {C : Addr} {l : List Value} {n : String} (hm : (PySem.W.clsIn K C).map (·.mro) = some l) (hl : l.isEmpty = false) (hk : PySem.W.kitMeta n = true) (hc : l.contains (.type n) = true) : PySem.W.kitOne K (.ref C) (.type n) = some true := by
  unfold PySem.W.kitOne PySem.W.kitCls
  rw [if_neg (by simp)]
  show (if PySem.W.kitMeta n = true then PySem.W.subIn K (.ref C) (.type n) else none) = _
  rw [if_pos hk]
  show PySem.W.mroIn K C (.type n) = _
  unfold PySem.W.mroIn
  obtain ⟨cd, h1, h2⟩ := Option.map_eq_some_iff.mp hm
  rw [h1, Option.bind_some, h2, if_neg (by rw [hl]; exact Bool.false_ne_true), hc]
structure Refusal (K : PySem.W.Frag) (t : Adr) (C : Addr) : Prop where
  g : XClass K C
  m : (PySem.W.clsIn K C).map (·.mro) = some [.ref C, .ref t.c_TableError, .type "ValueError", .type "Exception", .type "BaseException", .type "object"]
  x : excAny K C = true
theorem kit_ref {C D : Addr} (R : Refusal K t C) (hy : PySem.W.typeIn K (.ref D) = some (.type "type")) (hD : (PySem.W.clsIn K D).isSome = true) (hne : D ≠ t.c_TableError) : PySem.W.kitOne K (.ref C) (.ref D) = some (decide (C = D)) := by
  rw [kit_exc R.m rfl hy hD]
  by_cases z : C = D
  · simp [z]
  · have z' : ¬ D = C := fun y => z y.symm
    simp [z, z', hne]
theorem g_cls {C : Addr} (g : XClass K C) : (PySem.W.clsIn K C).isSome = true := by
  obtain ⟨_, h, _⟩ := g
  exact h
def markL (i : Nat) : List V := (List.range 20).map fun j => V.bl (decide (j = i))
theorem marks_of {C : Addr} {i : Nat} (nd : t.cls.Nodup) (h : t.cls[i]? = some C) : t.cls.map (fun D => V.bl (decide (C = D))) = markL i := by
  unfold markL
  refine List.ext_getElem (by simp [Adr.cls]) fun j h1 h2 => ?_
  rw [List.getElem_map, List.getElem_map, List.getElem_range]
  have hi : i < t.cls.length := (List.getElem?_eq_some_iff.mp h).1
  have he := (List.getElem?_eq_some_iff.mp h).2
  have hj : j < t.cls.length := by simpa using h1
  congr 1
  by_cases z : j = i
  · subst z
    rw [decide_eq_true rfl, decide_eq_true he.symm]
  · rw [decide_eq_false z]
    refine decide_eq_false fun y => ?_
    have y : t.cls[j] = t.cls[i] := y.symm.trans he.symm
    rcases Nat.lt_trichotomy j i with c | c | c
    · exact List.pairwise_iff_getElem.mp nd j i hj hi c y
    · exact z c
    · exact List.pairwise_iff_getElem.mp nd i j hi hj c y.symm
theorem cls_nd (T : Txt K mg t) : t.cls.Nodup := (List.nodup_cons.mp T.nd).2
theorem ne_cls (T : Txt K mg t) {D : Addr} (h : D ∈ t.cls) : D ≠ t.c_TableError := fun e => (List.nodup_cons.mp T.nd).1 (e ▸ h)
def sp_marks (K : PySem.W.Frag) (t : Adr) : Sp := fun vs H Q _ => ∃ (e C : Addr) (i : Nat), vs = [.ref e] ∧ H e = some (excO e C none) ∧ t.cls[i]? = some C ∧ Refusal K t C ∧ ∀ L H', Same H H' → H' L = some (.lst (markL i)) → Q (.ref L) H'
theorem okm_marks (T : Txt K mg t) : FnM P w K mg base (CXr P w) 1 t.f_marks t.d_marks p_marks (sp_marks K t) := by
  refine T.F_marks.okM sc_marks (fun vs H Q E h => ?_) (fun cdv A outer s H vs Q E hr h => ?_)
  · obtain ⟨e, C, i, rfl, _⟩ := h
    rfl
  · obtain ⟨e, C, i, rfl, he, hi, R, q⟩ := h
    rw [← marks_of (cls_nd T) hi] at q
    have ty : ∀ {H' : Hp}, Same H H' → TyX K H' (.ref e) (.ref C) := fun s' => .exc (s' _ _ he) R.g rfl
    have kit : ∀ {D : Addr}, PySem.W.typeIn K (.ref D) = some (.type "type") → (PySem.W.clsIn K D).isSome = true → D ∈ t.cls → PySem.W.kitOne K (.ref C) (.ref D) = some (decide (C = D)) := fun hy hD hm => kit_ref R hy hD (ne_cls T hm)
    refine ⟨_, pss_cons (ps_set (i := 1) sc_marks.nd rfl (Or.inl rfl) (pe_lst (pa_cons (pe_callB call_isi (by rfl) T.n_isinstance (by decide +kernel) (pa_cons (pv 0) (pa_cons (pe_glob (v := .ref t.c_NoSet) (by rfl) T.m_NoSet rfl) pa_nil))) (pa_cons (pe_callB call_isi (by rfl) T.n_isinstance (by decide +kernel) (pa_cons (pv 0) (pa_cons (pe_glob (v := .ref t.c_NoBook) (by rfl) T.m_NoBook rfl) pa_nil))) (pa_cons (pe_callB call_isi (by rfl) T.n_isinstance (by decide +kernel) (pa_cons (pv 0) (pa_cons (pe_glob (v := .ref t.c_NoHanging) (by rfl) T.m_NoHanging rfl) pa_nil))) (pa_cons (pe_callB call_isi (by rfl) T.n_isinstance (by decide +kernel) (pa_cons (pv 0) (pa_cons (pe_glob (v := .ref t.c_Unlike) (by rfl) T.m_Unlike rfl) pa_nil))) pa_nil))))))
      (pss_cons (ps_set (i := 1) sc_marks.nd rfl (Or.inl rfl) (pe_op op_cat (pv 1) (pe_lst (pa_cons (pe_callB call_isi (by rfl) T.n_isinstance (by decide +kernel) (pa_cons (pv 0) (pa_cons (pe_glob (v := .ref t.c_NoTable) (by rfl) T.m_NoTable rfl) pa_nil))) (pa_cons (pe_callB call_isi (by rfl) T.n_isinstance (by decide +kernel) (pa_cons (pv 0) (pa_cons (pe_glob (v := .ref t.c_NoSplit) (by rfl) T.m_NoSplit rfl) pa_nil))) (pa_cons (pe_callB call_isi (by rfl) T.n_isinstance (by decide +kernel) (pa_cons (pv 0) (pa_cons (pe_glob (v := .ref t.c_NoRow) (by rfl) T.m_NoRow rfl) pa_nil))) (pa_cons (pe_callB call_isi (by rfl) T.n_isinstance (by decide +kernel) (pa_cons (pv 0) (pa_cons (pe_glob (v := .ref t.c_NoColumn) (by rfl) T.m_NoColumn rfl) pa_nil))) pa_nil)))))))
      (pss_cons (ps_set (i := 1) sc_marks.nd rfl (Or.inl rfl) (pe_op op_cat (pv 1) (pe_lst (pa_cons (pe_callB call_isi (by rfl) T.n_isinstance (by decide +kernel) (pa_cons (pv 0) (pa_cons (pe_glob (v := .ref t.c_NoNumber) (by rfl) T.m_NoNumber rfl) pa_nil))) (pa_cons (pe_callB call_isi (by rfl) T.n_isinstance (by decide +kernel) (pa_cons (pv 0) (pa_cons (pe_glob (v := .ref t.c_NoGiven) (by rfl) T.m_NoGiven rfl) pa_nil))) (pa_cons (pe_callB call_isi (by rfl) T.n_isinstance (by decide +kernel) (pa_cons (pv 0) (pa_cons (pe_glob (v := .ref t.c_There) (by rfl) T.m_There rfl) pa_nil))) (pa_cons (pe_callB call_isi (by rfl) T.n_isinstance (by decide +kernel) (pa_cons (pv 0) (pa_cons (pe_glob (v := .ref t.c_Gone) (by rfl) T.m_Gone rfl) pa_nil))) pa_nil)))))))
      (pss_cons (ps_set (i := 1) sc_marks.nd rfl (Or.inl rfl) (pe_op op_cat (pv 1) (pe_lst (pa_cons (pe_callB call_isi (by rfl) T.n_isinstance (by decide +kernel) (pa_cons (pv 0) (pa_cons (pe_glob (v := .ref t.c_NoDeeds) (by rfl) T.m_NoDeeds rfl) pa_nil))) (pa_cons (pe_callB call_isi (by rfl) T.n_isinstance (by decide +kernel) (pa_cons (pv 0) (pa_cons (pe_glob (v := .ref t.c_NoDeed) (by rfl) T.m_NoDeed rfl) pa_nil))) (pa_cons (pe_callB call_isi (by rfl) T.n_isinstance (by decide +kernel) (pa_cons (pv 0) (pa_cons (pe_glob (v := .ref t.c_NoText) (by rfl) T.m_NoText rfl) pa_nil))) (pa_cons (pe_callB call_isi (by rfl) T.n_isinstance (by decide +kernel) (pa_cons (pv 0) (pa_cons (pe_glob (v := .ref t.c_NoLine) (by rfl) T.m_NoLine rfl) pa_nil))) pa_nil)))))))
      (pss_one (ps_ret (pe_op op_cat (pv 1) (pe_lst (pa_cons (pe_callB call_isi (by rfl) T.n_isinstance (by decide +kernel) (pa_cons (pv 0) (pa_cons (pe_glob (v := .ref t.c_NoName) (by rfl) T.m_NoName rfl) pa_nil))) (pa_cons (pe_callB call_isi (by rfl) T.n_isinstance (by decide +kernel) (pa_cons (pv 0) (pa_cons (pe_glob (v := .ref t.c_TooWide) (by rfl) T.m_TooWide rfl) pa_nil))) (pa_cons (pe_callB call_isi (by rfl) T.n_isinstance (by decide +kernel) (pa_cons (pv 0) (pa_cons (pe_glob (v := .ref t.c_TooMany) (by rfl) T.m_TooMany rfl) pa_nil))) (pa_cons (pe_callB call_isi (by rfl) T.n_isinstance (by decide +kernel) (pa_cons (pv 0) (pa_cons (pe_glob (v := .ref t.c_Broken) (by rfl) T.m_Broken rfl) pa_nil))) pa_nil))))))))))), ?_⟩
    refine ⟨_, rfl, _, _, _, _, rfl, ty (Same.refl _), (fun z => nomatch z), kit T.y_NoSet (g_cls T.g_NoSet) (by simp [Adr.cls]), _, rfl, _, _, _, _, rfl, ty (Same.refl _), (fun z => nomatch z), kit T.y_NoBook (g_cls T.g_NoBook) (by simp [Adr.cls]), _, rfl, _, _, _, _, rfl, ty (Same.refl _), (fun z => nomatch z), kit T.y_NoHanging (g_cls T.g_NoHanging) (by simp [Adr.cls]), _, rfl, _, _, _, _, rfl, ty (Same.refl _), (fun z => nomatch z), kit T.y_Unlike (g_cls T.g_Unlike) (by simp [Adr.cls]), (by show 4 ≤ sizeLine; decide), fun l1 h1 => ?_⟩
    have s1 := same_new (o := .lst [V.bl (decide (C = t.c_NoSet)), V.bl (decide (C = t.c_NoBook)), V.bl (decide (C = t.c_NoHanging)), V.bl (decide (C = t.c_Unlike))]) h1
    refine ⟨_, rfl, _, rfl, _, _, _, _, rfl, ty s1, (fun z => nomatch z), kit T.y_NoTable (g_cls T.g_NoTable) (by simp [Adr.cls]), _, rfl, _, _, _, _, rfl, ty s1, (fun z => nomatch z), kit T.y_NoSplit (g_cls T.g_NoSplit) (by simp [Adr.cls]), _, rfl, _, _, _, _, rfl, ty s1, (fun z => nomatch z), kit T.y_NoRow (g_cls T.g_NoRow) (by simp [Adr.cls]), _, rfl, _, _, _, _, rfl, ty s1, (fun z => nomatch z), kit T.y_NoColumn (g_cls T.g_NoColumn) (by simp [Adr.cls]), (by show 4 ≤ sizeLine; decide), fun m1 g1 => ?_⟩
    have u1 := s1.trans (same_new (o := .lst [V.bl (decide (C = t.c_NoTable)), V.bl (decide (C = t.c_NoSplit)), V.bl (decide (C = t.c_NoRow)), V.bl (decide (C = t.c_NoColumn))]) g1)
    refine ⟨l1, m1, [V.bl (decide (C = t.c_NoSet)), V.bl (decide (C = t.c_NoBook)), V.bl (decide (C = t.c_NoHanging)), V.bl (decide (C = t.c_Unlike))], [V.bl (decide (C = t.c_NoTable)), V.bl (decide (C = t.c_NoSplit)), V.bl (decide (C = t.c_NoRow)), V.bl (decide (C = t.c_NoColumn))], rfl, rfl, by rw [upd_ne (ne_of_none upd_same g1)]; exact upd_same, upd_same, (by show 8 ≤ sizeLine; decide), fun l2 h2 => ?_⟩
    have s2 := u1.trans (same_new (o := .lst [V.bl (decide (C = t.c_NoSet)), V.bl (decide (C = t.c_NoBook)), V.bl (decide (C = t.c_NoHanging)), V.bl (decide (C = t.c_Unlike)), V.bl (decide (C = t.c_NoTable)), V.bl (decide (C = t.c_NoSplit)), V.bl (decide (C = t.c_NoRow)), V.bl (decide (C = t.c_NoColumn))]) h2)
    refine ⟨_, rfl, _, rfl, _, _, _, _, rfl, ty s2, (fun z => nomatch z), kit T.y_NoNumber (g_cls T.g_NoNumber) (by simp [Adr.cls]), _, rfl, _, _, _, _, rfl, ty s2, (fun z => nomatch z), kit T.y_NoGiven (g_cls T.g_NoGiven) (by simp [Adr.cls]), _, rfl, _, _, _, _, rfl, ty s2, (fun z => nomatch z), kit T.y_There (g_cls T.g_There) (by simp [Adr.cls]), _, rfl, _, _, _, _, rfl, ty s2, (fun z => nomatch z), kit T.y_Gone (g_cls T.g_Gone) (by simp [Adr.cls]), (by show 4 ≤ sizeLine; decide), fun m2 g2 => ?_⟩
    have u2 := s2.trans (same_new (o := .lst [V.bl (decide (C = t.c_NoNumber)), V.bl (decide (C = t.c_NoGiven)), V.bl (decide (C = t.c_There)), V.bl (decide (C = t.c_Gone))]) g2)
    refine ⟨l2, m2, [V.bl (decide (C = t.c_NoSet)), V.bl (decide (C = t.c_NoBook)), V.bl (decide (C = t.c_NoHanging)), V.bl (decide (C = t.c_Unlike)), V.bl (decide (C = t.c_NoTable)), V.bl (decide (C = t.c_NoSplit)), V.bl (decide (C = t.c_NoRow)), V.bl (decide (C = t.c_NoColumn))], [V.bl (decide (C = t.c_NoNumber)), V.bl (decide (C = t.c_NoGiven)), V.bl (decide (C = t.c_There)), V.bl (decide (C = t.c_Gone))], rfl, rfl, by rw [upd_ne (ne_of_none upd_same g2)]; exact upd_same, upd_same, (by show 12 ≤ sizeLine; decide), fun l3 h3 => ?_⟩
    have s3 := u2.trans (same_new (o := .lst [V.bl (decide (C = t.c_NoSet)), V.bl (decide (C = t.c_NoBook)), V.bl (decide (C = t.c_NoHanging)), V.bl (decide (C = t.c_Unlike)), V.bl (decide (C = t.c_NoTable)), V.bl (decide (C = t.c_NoSplit)), V.bl (decide (C = t.c_NoRow)), V.bl (decide (C = t.c_NoColumn)), V.bl (decide (C = t.c_NoNumber)), V.bl (decide (C = t.c_NoGiven)), V.bl (decide (C = t.c_There)), V.bl (decide (C = t.c_Gone))]) h3)
    refine ⟨_, rfl, _, rfl, _, _, _, _, rfl, ty s3, (fun z => nomatch z), kit T.y_NoDeeds (g_cls T.g_NoDeeds) (by simp [Adr.cls]), _, rfl, _, _, _, _, rfl, ty s3, (fun z => nomatch z), kit T.y_NoDeed (g_cls T.g_NoDeed) (by simp [Adr.cls]), _, rfl, _, _, _, _, rfl, ty s3, (fun z => nomatch z), kit T.y_NoText (g_cls T.g_NoText) (by simp [Adr.cls]), _, rfl, _, _, _, _, rfl, ty s3, (fun z => nomatch z), kit T.y_NoLine (g_cls T.g_NoLine) (by simp [Adr.cls]), (by show 4 ≤ sizeLine; decide), fun m3 g3 => ?_⟩
    have u3 := s3.trans (same_new (o := .lst [V.bl (decide (C = t.c_NoDeeds)), V.bl (decide (C = t.c_NoDeed)), V.bl (decide (C = t.c_NoText)), V.bl (decide (C = t.c_NoLine))]) g3)
    refine ⟨l3, m3, [V.bl (decide (C = t.c_NoSet)), V.bl (decide (C = t.c_NoBook)), V.bl (decide (C = t.c_NoHanging)), V.bl (decide (C = t.c_Unlike)), V.bl (decide (C = t.c_NoTable)), V.bl (decide (C = t.c_NoSplit)), V.bl (decide (C = t.c_NoRow)), V.bl (decide (C = t.c_NoColumn)), V.bl (decide (C = t.c_NoNumber)), V.bl (decide (C = t.c_NoGiven)), V.bl (decide (C = t.c_There)), V.bl (decide (C = t.c_Gone))], [V.bl (decide (C = t.c_NoDeeds)), V.bl (decide (C = t.c_NoDeed)), V.bl (decide (C = t.c_NoText)), V.bl (decide (C = t.c_NoLine))], rfl, rfl, by rw [upd_ne (ne_of_none upd_same g3)]; exact upd_same, upd_same, (by show 16 ≤ sizeLine; decide), fun l4 h4 => ?_⟩
    have s4 := u3.trans (same_new (o := .lst [V.bl (decide (C = t.c_NoSet)), V.bl (decide (C = t.c_NoBook)), V.bl (decide (C = t.c_NoHanging)), V.bl (decide (C = t.c_Unlike)), V.bl (decide (C = t.c_NoTable)), V.bl (decide (C = t.c_NoSplit)), V.bl (decide (C = t.c_NoRow)), V.bl (decide (C = t.c_NoColumn)), V.bl (decide (C = t.c_NoNumber)), V.bl (decide (C = t.c_NoGiven)), V.bl (decide (C = t.c_There)), V.bl (decide (C = t.c_Gone)), V.bl (decide (C = t.c_NoDeeds)), V.bl (decide (C = t.c_NoDeed)), V.bl (decide (C = t.c_NoText)), V.bl (decide (C = t.c_NoLine))]) h4)
    refine ⟨_, rfl, _, rfl, _, _, _, _, rfl, ty s4, (fun z => nomatch z), kit T.y_NoName (g_cls T.g_NoName) (by simp [Adr.cls]), _, rfl, _, _, _, _, rfl, ty s4, (fun z => nomatch z), kit T.y_TooWide (g_cls T.g_TooWide) (by simp [Adr.cls]), _, rfl, _, _, _, _, rfl, ty s4, (fun z => nomatch z), kit T.y_TooMany (g_cls T.g_TooMany) (by simp [Adr.cls]), _, rfl, _, _, _, _, rfl, ty s4, (fun z => nomatch z), kit T.y_Broken (g_cls T.g_Broken) (by simp [Adr.cls]), (by show 4 ≤ sizeLine; decide), fun m4 g4 => ?_⟩
    have u4 := s4.trans (same_new (o := .lst [V.bl (decide (C = t.c_NoName)), V.bl (decide (C = t.c_TooWide)), V.bl (decide (C = t.c_TooMany)), V.bl (decide (C = t.c_Broken))]) g4)
    refine ⟨l4, m4, [V.bl (decide (C = t.c_NoSet)), V.bl (decide (C = t.c_NoBook)), V.bl (decide (C = t.c_NoHanging)), V.bl (decide (C = t.c_Unlike)), V.bl (decide (C = t.c_NoTable)), V.bl (decide (C = t.c_NoSplit)), V.bl (decide (C = t.c_NoRow)), V.bl (decide (C = t.c_NoColumn)), V.bl (decide (C = t.c_NoNumber)), V.bl (decide (C = t.c_NoGiven)), V.bl (decide (C = t.c_There)), V.bl (decide (C = t.c_Gone)), V.bl (decide (C = t.c_NoDeeds)), V.bl (decide (C = t.c_NoDeed)), V.bl (decide (C = t.c_NoText)), V.bl (decide (C = t.c_NoLine))], [V.bl (decide (C = t.c_NoName)), V.bl (decide (C = t.c_TooWide)), V.bl (decide (C = t.c_TooMany)), V.bl (decide (C = t.c_Broken))], rfl, rfl, by rw [upd_ne (ne_of_none upd_same g4)]; exact upd_same, upd_same, (by show 20 ≤ sizeLine; decide), fun l5 h5 => ?_⟩
    have s5 := u4.trans (same_new (o := .lst [V.bl (decide (C = t.c_NoSet)), V.bl (decide (C = t.c_NoBook)), V.bl (decide (C = t.c_NoHanging)), V.bl (decide (C = t.c_Unlike)), V.bl (decide (C = t.c_NoTable)), V.bl (decide (C = t.c_NoSplit)), V.bl (decide (C = t.c_NoRow)), V.bl (decide (C = t.c_NoColumn)), V.bl (decide (C = t.c_NoNumber)), V.bl (decide (C = t.c_NoGiven)), V.bl (decide (C = t.c_There)), V.bl (decide (C = t.c_Gone)), V.bl (decide (C = t.c_NoDeeds)), V.bl (decide (C = t.c_NoDeed)), V.bl (decide (C = t.c_NoText)), V.bl (decide (C = t.c_NoLine)), V.bl (decide (C = t.c_NoName)), V.bl (decide (C = t.c_TooWide)), V.bl (decide (C = t.c_TooMany)), V.bl (decide (C = t.c_Broken))]) h5)
    exact q l5 _ s5 upd_same
end M

set_option Elab.async false
set_option linter.all false
set_option maxRecDepth 100000
set_option maxHeartbeats 1000000
namespace M
open PySem PySem.Spec PyProof.Rows L2
variable {P : Program} {w : World} {K : PySem.W.Frag} {mg : Str → Option Value} {base : Heap} {t : Adr}
/-! ### what a call has said: told and its answer, or the word of a refusal -/
def words : List Str := ["set", "book", "hanging", "unlike", "table", "split", "row", "column", "number", "given", "there", "gone", "deeds", "deed", "text", "line", "name"]
/-- the end of a call that is said, from what is wanted of the answer -/
def saidQ (Q : VK) : VK := fun v H => ∀ p, H p = none → Q (.ref p) (upd H p (.tup [.str "told", v]))
def saidE (K : PySem.W.Frag) (t : Adr) (Q : VK) : XK := fun c dx H => ∃ (C : Addr) (i : Nat) (z : Str), c = .ref C ∧ dx = none ∧ t.cls[i]? = some C ∧ words[i]? = some z ∧ Refusal K t C ∧ ∀ H', Same H H' → Q (.str z) H'
def sp_said (P : Program) (w : World) (K : PySem.W.Frag) (mg : Str → Option Value) (t : Adr) (k : Nat) (base : Heap) : Sp := fun vs H Q _ => ∃ (f : Addr) (spL : Hp → VK → XK → Prop), vs = [.ref f] ∧ Callable P w K mg base k f spL ∧ ∀ Q' E', (∀ v H', saidQ Q v H' → Q' v H') → (∀ c dx H', saidE K t Q c dx H' → E' c dx H') → spL H Q' E'
theorem mark17 : ∀ i, i < 17 → (markL i)[17]? = some (.bl false) ∧ (markL i)[18]? = some (.bl false) ∧ (markL i)[19]? = some (.bl false) ∧ (markL i).countP (fun z => eqV z (.bl true)) = 1 ∧ (markL i)[i]? = some (.bl true) ∧ (markL i).all flatV = true ∧
    ∀ m, m < i → (markL i)[m]? = some (.bl false) := by decide +kernel
theorem isMark_lt {i : Nat} {z : Str} (h : words[i]? = some z) : i < 17 := (List.getElem?_eq_some_iff.mp h).1
theorem ok_said {k : Nat} (T : Txt K mg t) : FnOk P w K mg base (CXr P w) (k + 2) t.f_said t.d_said p_said (sp_said P w K mg t k base) := by
  refine T.F_said.okN sc_said (fun vs H Q E h => ?_) (fun cdv A outer s H vs Q E hr h => ?_)
  · obtain ⟨f, spL, rfl, _⟩ := h
    rfl
  · obtain ⟨f, spL, rfl, hC, hL⟩ := h
    have hr1 := hr.mono (show 1 ≤ k + 1 by omega)
    have hr := hr.mono (Nat.le_succ k)
    refine ⟨_, pss_cons (ps_tryW T.x_TableError ⟨rfl, rfl⟩ rfl sc_said.nd (i := 2) rfl rfl (by rfl) T.m_TableError (fun _ _ => (pss_one (ps_set (i := 1) sc_said.nd rfl (Or.inl rfl) (pe_callV (P := P) (w := w) (K := K) (mg := mg) (base := base) ⟨rfl, rfl, rfl, rfl, rfl⟩ (i := 0) rfl (Or.inl rfl) hr (xok_try rfl)))))
        (fun _ _ => (pssw_cons (ps_set (i := 3) sc_said.nd rfl (Or.inl rfl) (pe_callM (okm_marks T) (hr1.m.mark _) (by rfl) T.m_marks T.F_marks.kp T.b_marks .nil (pa_cons (pv 2) pa_nil)))
        (pssw_cons (ps_if (PW.pt (pw_or (pt_not (pt_val (pe_callB call_isi (by rfl) T.n_isinstance (by decide +kernel) (pa_cons (pv 2) (pa_cons (pe_bltn (v := .ty "ValueError") (by rfl) T.n_ValueError (by decide +kernel) rfl) pa_nil))))) (pw_or1 (pt_cmpR op_ne (pe_bm PySem.F.plainAttrs_list PySem.F.slot_list_count PySem.F.type_list_count mt_countL (pv 3) (pa_cons pe_bl pa_nil)) pe_int (nomark _))))) (pss_one (ps_ret pe_str)) pss_nil)
        (pssw_cons (ps_if (PW.pt (pw_or (pt_val (pe_ix ix_list (pv 3) pe_int (fun _ _ => rfl))) (pw_or1 (pt_val (pe_ix ix_list (pv 3) pe_int (fun _ _ => rfl)))))) (pss_one (ps_never)) pss_nil)
        (pssw_cons (ps_if (pt_val (pe_ix ix_list (pv 3) pe_int (fun _ _ => rfl))) (pss_one (ps_never)) pss_nil)
        (pssw_setS (i := 4) (zs := ["set", "book", "hanging", "unlike", "table", "split", "row", "column", "number", "given", "there"]) sc_said.nd rfl (Or.inl rfl) (.inr rfl) (by rfl)
        (pssw_one (ps_ret (pe_ix ix_list (pe_op op_cat (pv 4) (pe_lst (pa_strs (zs := ["gone", "deeds", "deed", "text", "line", "name"]) (by rfl)))) (pe_bm PySem.F.plainAttrs_list PySem.F.slot_list_index PySem.F.type_list_index mt_index (pv 3) (pa_cons pe_bl pa_nil)) (fun _ _ => rfl)))))))))))
      (pss_one (ps_ret (pe_tup (pa_cons pe_str (pa_cons (pv 1) pa_nil))))), ?_⟩
    refine ⟨fun σ H' C dx => (∃ o1, σ = [some (.ref f), o1, none, none, none]) ∧ saidE K t Q (.ref C) dx H', fun _ => ⟨f, spL, rfl, hC, ?_⟩, fun σ H' C dx hW => ?_⟩
    · refine hL _ _ (fun v H1 hv => ?_) (fun c dx H1 hE => ?_)
      · refine ⟨_, rfl, by show 2 ≤ sizeLine; decide, fun p hp => hv p hp⟩
      · obtain ⟨C, i, z, rfl, r⟩ := hE
        exact ⟨C, rfl, ⟨_, rfl⟩, C, i, z, rfl, r⟩
    · obtain ⟨⟨o1, rfl⟩, C', i, z, e1, rfl, hi, hz, R, q⟩ := hW
      cases e1
      have i17 := isMark_lt hz
      obtain ⟨m17, m18, m19, mc, mi, mf, ml⟩ := mark17 i i17
      have hsub : subX K C t.c_TableError = true := by
        obtain ⟨cd, h1, h2⟩ := Option.map_eq_some_iff.mp R.m
        unfold subX
        unfold PySem.W.clsIn at h1
        cases hk : K.lookup C with
        | none => rw [hk] at h1; cases h1
        | some o =>
          obtain ⟨oc, od, dat, sl⟩ := o
          rw [hk] at h1
          cases dat with
          | cls cd' =>
            cases h1
            show cd.mro.contains _ = true
            rw [h2]
            simp
          | _ => cases h1
      refine ⟨⟨R.x, hsub⟩, fun e he => fun pins e' => ?_⟩
      have s0 := same_new (o := excO e C none) he
      refine ⟨_, rfl, e, C, i, rfl, upd_same, hi, R, fun L H2 s2 hL2 => ?_⟩
      have hs := SqL.of (K := K) hL2
      have ty : TyX K H2 (.ref e) (.ref C) := .exc (s2 _ _ upd_same) R.g rfl
      refine ⟨_, rfl, _, _, _, _, rfl, ty, (fun z => nomatch z), kit_val R.m rfl (by decide +kernel) rfl, _, rfl, iteF ?_⟩
      refine ⟨_, rfl, .inl ⟨rfl, _, hs⟩, L, _, .bl true, rfl, rfl, hs, rfl, mf, ?_⟩
      rw [mc]
      refine ⟨rfl, _, rfl, iteF ?_⟩
      refine ⟨_, rfl, L, _, _, _, rfl, rfl, hs, atI_nat (j := 17) m17, _, rfl, iteF ?_⟩
      refine ⟨_, rfl, L, _, _, _, rfl, rfl, hs, atI_nat (j := 18) m18, _, rfl, iteF ?_⟩
      refine ⟨_, rfl, L, _, _, _, rfl, rfl, hs, atI_nat (j := 19) m19, _, rfl, iteF ?_⟩
      refine ⟨by show 11 ≤ sizeLine; decide, fun l1 h1 => ?_⟩
      have u1 := same_new (o := .lst (List.map V.str (["set", "book", "hanging", "unlike", "table", "split", "row", "column", "number", "given", "there"] : List Str))) h1
      refine ⟨_, rfl, by show 6 ≤ sizeLine; decide, fun l2 h2 => ?_⟩
      have u2 := same_new (o := .lst (List.map V.str (["gone", "deeds", "deed", "text", "line", "name"] : List Str))) h2
      refine ⟨l1, l2, _, _, rfl, rfl, u2 _ _ upd_same, upd_same, (show 17 ≤ sizeLine by decide), fun l3 h3 => ?_⟩
      have u3 := same_new (o := .lst (words.map V.str)) h3
      have s3 := u1.trans (u2.trans u3)
      refine ⟨_, rfl, .inl ⟨rfl, _, s3.seq hs⟩, L, _, .bl true, i, .bl true, rfl, rfl, s3.seq hs, rfl, mf, mi, rfl, fun m z' hm ez => ?_, ?_⟩
      · rw [ml m hm] at ez
        cases ez
        rfl
      refine ⟨l3, words.map V.str, _, .str z, rfl, rfl, SqL.of upd_same, atI_nat (by rw [List.getElem?_map, hz]; rfl), ?_⟩
      exact q _ (s0.trans (s2.trans s3))
end M

set_option Elab.async false
set_option linter.all false
set_option maxRecDepth 100000
set_option maxHeartbeats 4000000
namespace L2
open PySem PySem.Spec PyProof.Rows
/-- text[::-1] -/
def revS (z : Str) : Str := ⟨z.cps.toList.reverse.toArray⟩
def tRevS (te tc : TE) : TE := fun σ H Q => te σ H fun x H1 => tc σ H1 fun y H2 => y = .int (-1) ∧ ∃ z, x = .str z ∧ z.length ≤ sizeLine ∧ Q (.str (revS z)) H2
theorem picked_revS (z : Str) : (⟨((Builtin.Str.strSliceIndices none none (-1) z.length).filterMap (z.cps[·]?)).toArray⟩ : Str) = revS z := by
  have e : (Builtin.Str.strSliceIndices none none (-1) z.length).filterMap (z.cps[·]?) = z.cps.toList.reverse := by
    rw [picked_rev, filterMap_get, List.map_map]
    · refine List.ext_getElem (by simp [Str.length]) fun i h1 h2 => ?_
      have hi : i < z.cps.size := by simpa [Str.length] using h1
      have hl : z.length = z.cps.size := rfl
      simp only [List.getElem_map, List.getElem_range, Function.comp_apply, List.getElem_reverse, Array.length_toList, Array.getElem_toList]
      rw [hl]
      simp [Array.getD, show z.cps.size - 1 - i < z.cps.size by omega]
    · intro i hi
      obtain ⟨k, hk, rfl⟩ := List.mem_map.mp hi
      have hk' : k < z.length := List.mem_range.mp hk
      show z.length - 1 - k < z.length
      omega
  rw [e]
  rfl
section
variable {X : Cx} {e c : Expr} {te tc : TE} {pos p2 : Pos}
theorem pe_slRevS (he : PE X e te) (hc : PE X c tc) : PE X (.Subscript e (.Slice none none (some c) p2) pos) (tRevS te tc) := by
  intro pins s σ H Q I h
  refine Subscript_ (thn (he pins s σ H _ I h) fun v s1 ⟨x, H1, I1, r1, q1⟩ => ?_)
  refine wpAny_Slice ?_
  rw [evalPart_none]
  refine wpAny_pure ?_
  refine wpAny_pure ?_
  rw [evalPart_some]
  refine thn (hc pins s1 σ H1 _ I1 q1) fun vc s3 ⟨y, H3, I3, r3, q3⟩ => ?_
  obtain ⟨rfl, z, rfl, hz, q⟩ := q3
  obtain ⟨tk, rfl⟩ := r3
  obtain ⟨t, rfl⟩ := r1
  have I4 : Inv X pins σ H3 { s3 with heap := s3.heap.push { cls := .type "slice", data := .fields #[.none, .none, .int (-1) tk] } } := I3.kept (t' := s3.toks) fun b ob q => Heap.get?_push_of_some _ q
  refine tail_any (ops := [.str z t, .ref s3.heap.objs.size]) (typeIs_str _ _ _) F.slot_str_getitem.lookup ?_ (by with_unfolding_all rfl)
  refine wpAny_getItem_str_slice (l := none) (u := none) (st := some (-1, tk)) ⟨_, Heap.get?_push_size _ rfl, rfl, rfl⟩ (show ((-1 : Int) == 0) = false by decide) ?_
  show Made.post (if (((-1 : Int) == 1) && (Builtin.Str.strSliceIndices none none (-1) z.length).length == z.length) = true then Made.val (.str z t)
    else Made.str ⟨((Builtin.Str.strSliceIndices none none (-1) z.length).filterMap (z.cps[·]?)).toArray⟩) (EP X pins σ Q) _
  rw [picked_revS, show ((-1 : Int) == 1) = false by decide, Bool.false_and, if_neg (by decide)]
  refine ⟨?_, .str _, H3, I4.tok _, ⟨_, rfl⟩, q⟩
  show z.cps.toList.reverse.toArray.size ≤ sizeLine
  have : z.cps.size ≤ sizeLine := hz
  simpa using this
end
end L2

set_option Elab.async false
set_option linter.all false
set_option maxRecDepth 100000
set_option maxHeartbeats 4000000
namespace L2
open PySem PySem.Spec PyProof.Rows
section
variable {X : Cx}
end
end L2

set_option Elab.async false
set_option linter.all false
set_option maxRecDepth 100000
namespace L2
open PySem PySem.Spec PyProof.Rows
section
variable {X : Cx}
theorem lcO_core {pins : List (Addr × Obj)} {s : Shared} {σ : St} {H : Hp} {Q : VK} {elt tg iter : Expr} {ifs : List Expr} {scope : Scope} {own : List (Str × Nat)} {pos pos' : Pos} {wi : TI} {g : TG} {tt : TT} {te : St → TE} {use : Option (Value → Sem Unit)} {Qf : Value → Shared → Prop}
    (hc : X.calm = true) (hN : X.N.Nodup) (I : Inv X pins σ H s) (hi : PI X tg iter wi) (ok : BlkOk X.N X.env.scope scope own)
    (hg : ∀ (s : Shared) (H : Hp) (C : Addr) (cl : List (Str × Addr)) (fp : List Addr), PG (X.blk s H scope (compEnvC scope cl C X.env) fp) tg g) (ht : ∀ (s : Shared) (H : Hp) (C : Addr) (cl : List (Str × Addr)) (fp : List Addr), PTs (X.blk s H scope (compEnvC scope cl C X.env) fp) ifs tt)
    (he : ∀ (s : Shared) (H : Hp) (C : Addr) (cl : List (Str × Addr)) (fp : List Addr), Inv X pins σ H s → (∀ b ∈ fp, FpOk X pins H b) → PE (X.blk s H scope (compEnvC scope cl C X.env) fp) elt (te σ)) (hs : ∀ x, foldedSetIterable iter X.env x = pure x)
    (h : tLc wi g tt (te σ) (own.map (·.2)) σ H Q)
    (hRR : ∀ D C s' m H', Inv X pins σ H' s' → Q (.ref D) H' → s'.heap.Ns C m → FpOk X pins H' C → compPost (model X.prog X.w) X.A X.xe use Qf (.ref D) C (.ok .next) s') :
    wpAny (model X.prog X.w) X.A (comprehension (.ListComp elt [⟨tg, iter, ifs, 0⟩] scope pos) scope X.env pos' (newList []) false (eval iter X.env) use) Qf X.xe s := by
  have hfree : ∀ y ∈ scope.names, y.2 = .free → ∃ c, X.env.cells.lookup y.1 = some c := fun y hy e => by
    rcases ok.free y hy e with k | k
    · exact I.ok.has _ (.inl k)
    · exact I.ok.has _ (.inr k)
  refine wpAny_comprehension_free (use := use) rfl hs (closure_ok hfree) ok.kind (fun y hy e => by rw [ok.uniq y hy, e])
    (thn (hi pins s σ H _ I h) fun xv s1 hx => thn hx fun itv s2 h2 => ?_)
  obtain ⟨it, fp, tn, J, H2, e, I2, T, st2, f2, q⟩ := h2
  subst e
  refine wpAny_newObj_type (newEnv_comp ?_) (by show 0 ≤ sizeLine; decide)
  generalize hD : s2.heap.objs.size = D
  have hDn : H2 D = none := I2.hok.fresh (Nat.le_of_eq hD)
  obtain ⟨W, ⟨m0, w0⟩, turn⟩ := q D hDn
  -- the new list
  generalize hs3 : ({ s2 with heap := s2.heap.push { cls := .type "list", data := .seq ([] : List Value).toArray } } : Shared) = s3
  have I3 : Inv X pins σ (upd H2 D (.lst [])) s3 := by
    rw [← hs3]
    refine I2.laid (t' := s2.toks) (fun b o e => Heap.get?_push_of_some _ e) (Nat.le_of_eq hD) ⟨Nat.zero_le _, [], 0, .nil, ?_⟩
    rw [← hD]
    exact Heap.get?_push_size _ rfl
  have h3 : s3.heap = s2.heap.push { cls := .type "list", data := .seq ([] : List Value).toArray } := by rw [← hs3]
  have sz : ∀ b ∈ fp, b < s2.heap.objs.size := fun b hb => by
    obtain ⟨o, e, _⟩ := T.obj _ _ st2 b hb
    exact Heap.lt_size e
  have f3 : ∀ b ∈ fp, FpOk X pins (upd H2 D (.lst [])) b ∧ b < s3.heap.objs.size := fun b hb => by
    have hlt := sz b hb
    refine ⟨⟨?_, (f2 b hb).2⟩, by rw [h3, Heap.size_push]; exact Nat.lt_succ_of_lt hlt⟩
    rw [upd_ne (by rw [← hD]; exact Nat.ne_of_lt hlt)]
    exact (f2 b hb).1
  have st3 : tn 0 s3.heap := T.keep _ _ _ st2 fun b _ o e => by rw [h3]; exact Heap.get?_push_of_some _ e
  have I4 := block_start I3 ok hN f3
  have pg := hg s3 (upd H2 D (.lst [])) s3.heap.objs.size (cellsFrom (s3.heap.objs.size + 1) scope.names (cloFrom X.env.cells scope.names [])) fp
  have pt := ht s3 (upd H2 D (.lst [])) s3.heap.objs.size (cellsFrom (s3.heap.objs.size + 1) scope.names (cloFrom X.env.cells scope.names [])) fp
  have pe := he s3 (upd H2 D (.lst [])) s3.heap.objs.size (cellsFrom (s3.heap.objs.size + 1) scope.names (cloFrom X.env.cells scope.names [])) fp I3 (fun b hb => (f3 b hb).1)
  show codeAny _ _ (.compStart (.ListComp elt [⟨tg, iter, ifs, 0⟩] scope pos) 0 (.ref it) (.ref D) (compEnvC scope (cellsFrom (s3.heap.objs.size + 1) scope.names (cloFrom X.env.cells scope.names [])) s3.heap.objs.size X.env)) (compPost (model X.prog X.w) X.A X.xe use Qf (.ref D) s3.heap.objs.size) { s3 with heap := pushCells (s3.heap.push { cls := .type "dict", data := .dict #[] }) scope.names }
  have nfp : ∀ b ∈ fp, (upd H2 D (.lst [])) b = none := fun b hb => (f3 b hb).1.1
  generalize hce : compEnvC scope (cellsFrom (s3.heap.objs.size + 1) scope.names (cloFrom X.env.cells scope.names [])) s3.heap.objs.size X.env = ce at I4 pg pt pe ⊢
  have cL : ce.locals = s3.heap.objs.size := by subst hce; rfl
  generalize hH3 : upd H2 D (.lst []) = H3 at I3 I4 pg pt pe w0 nfp f3
  generalize hs4 : ({ s3 with heap := pushCells (s3.heap.push { cls := .type "dict", data := .dict #[] }) scope.names } : Shared) = s4 at I4 ⊢
  have st4 : tn 0 s4.heap := T.keep _ _ _ st3 fun b _ o e => by rw [← hs4]; exact pushCells_keeps _ _ _ _ (Heap.get?_push_of_some _ e)
  have stat : ∀ {σ' : St} {H' : Hp} {s' : Shared}, Inv (X.blk s3 H3 scope ce fp) [] σ' H' s' → (∀ b ∈ fp, H' b = none) → ∀ b ∈ fp, FpOk (X.blk s3 H3 scope ce fp) [] H' b := fun {σ' H' s'} I' hn b hb =>
    ⟨hn b hb, (I'.ok.exf b hb).1, I'.ok.exfs b hb, .inl hb, fun x c e => (I'.ok.exf b hb).2 x c e, fun p hp => absurd (show p ∈ ([] : List (Addr × Obj)) ++ [] from hp) (by simp)⟩
  have loop : codeAny (model X.prog X.w) X.A (.compLoop (.ListComp elt [⟨tg, iter, ifs, 0⟩] scope pos) 0 (.ref it) (.ref D) ce) (compPost (model X.prog X.w) X.A X.xe use Qf (.ref D) s3.heap.objs.size) s4 := by
    refine compLoop_any (fun n s' => ∃ i H', Inv (X.blk s3 H3 scope ce fp) [] (wipe σ (own.map (·.2))) H' s' ∧ tn i s'.heap ∧ (∀ b ∈ fp, H' b = none) ∧ W i n H') ?_ m0 ⟨0, H3, I4, st4, nfp, w0⟩
    rintro n s5 ⟨i, H5, I5, st5, n5, w5⟩
    rcases turn i n H5 w5 with ⟨stop, qq⟩ | ⟨go, Nx, hNx, step⟩
    · have td := T.done (X.blk s3 H3 scope ce fp) rfl rfl rfl hc i [] s5 _ H5 (fun _ _ => False) I5 (stat I5 n5) st5 stop
      refine thnF td fun r s6 ⟨hr, I6⟩ => ?_
      subst hr
      -- back in the def's context
      have I7 : Inv X pins σ H5 s6 := I3.call' (ch := fp) I6.os I6.base I6.hok I6.bare fun b hb => ⟨(f3 b hb).1.2.2.2.1, (f3 b hb).1.2.1, (f3 b hb).1.2.2.2.2.1, (f3 b hb).1.2.2.2.2.2⟩
      have nC : H5 s3.heap.objs.size = none := by
        have z : H5 ce.locals = none := I6.free
        rw [cL] at z
        exact z
      obtain ⟨m, hn, _⟩ := I6.loc
      have hn : s6.heap.Ns ce.locals m := hn
      rw [cL] at hn
      exact hRR D s3.heap.objs.size s6 m H5 I7 qq hn (I3.fpOk (Nat.le_refl _) nC)
    · have ti := T.item (X.blk s3 H3 scope ce fp) rfl rfl rfl hc i [] s5 _ H5 (fun _ _ => False) I5 (stat I5 n5) st5 go
      refine thnF ti fun r s6 ⟨u, hr, h6⟩ => ?_
      subst hr
      refine thnF h6 fun _ s7 ⟨x, H7, I7, r7, y7, st7, n7⟩ => ?_
      have I7' := I7.pinned (stat I7 n7) (T.obj _ _ st7)
      refine thnF (pg _ s7 _ H7 x u _ I7' r7 (step x H7 y7)) fun _ s8 ⟨σ8, H8, I8, hw8, q8⟩ => ?_
      refine thnF (pt _ s8 σ8 H8 _ I8 q8) fun b s9 ⟨H9, I9, q9⟩ => ?_
      -- the turn's end
      have fin : ∀ {s' : Shared} {H' : Hp}, Inv (X.blk s3 H3 scope ce fp) ([] ++ pinsAt fp s7.heap) σ8 H' s' → Nx H' → ∃ m, m < n ∧ ∃ i H', Inv (X.blk s3 H3 scope ce fp) [] (wipe σ (own.map (·.2))) H' s' ∧ tn i s'.heap ∧ (∀ b ∈ fp, H' b = none) ∧ W i m H' := fun {s' H'} I' nx => by
        obtain ⟨m', hm, w'⟩ := hNx H' nx
        have pin' : ∀ b ∈ fp, ∀ o, s7.heap.get? b = some o → s'.heap.get? b = some o ∧ H' b = none := fun b hb o e =>
          let z := I'.pin (b, o) (List.mem_append_right _ (List.mem_append_right _ (mem_pinsAt hb e)))
          ⟨z.1, z.2.1⟩
        have hl : (wipe σ (own.map (·.2))).length = σ8.length := by rw [← hw8, wipe_length]
        refine ⟨m', hm, i + 1, H', (I'.unpinned (pins := [])).weak hl (fun j v e => ?_), T.keep _ _ _ st7 fun b hb o e => (pin' b hb o e).1, fun b hb => ?_, w'⟩
        · rw [← hw8] at e
          exact (wipe_some e).1
        · obtain ⟨o, e, _⟩ := T.obj _ _ st7 b hb
          exact (pin' b hb o e).2
      cases b with
      | false =>
        simp only [Bool.false_eq_true, if_false] at q9 ⊢
        exact fin I9 q9
      | true =>
        simp only [if_true] at q9 ⊢
        refine thnF (pe _ s9 σ8 H9 _ I9 q9) fun z s10 ⟨yv, H10, I10, r10, acc, hD10, hz10, nx⟩ => ?_
        exact app_ok (X := X.blk s3 H3 scope ce fp) I10 hD10 hz10 r10 fun s11 I11 => fin I11 nx
  exact codeAny_compStart_list loop (T.self X.A 0 _ _ _ st4 loop)
theorem pe_lcO {elt tg iter : Expr} {ifs : List Expr} {scope : Scope} {own : List (Str × Nat)} {pos : Pos} {wi : TI} {g : TG} {tt : TT} {te : St → TE} (hc : X.calm = true) (hN : X.N.Nodup) (hi : PI X tg iter wi) (ok : BlkOk X.N X.env.scope scope own)
    (hg : ∀ (s : Shared) (H : Hp) (C : Addr) (cl : List (Str × Addr)) (fp : List Addr), PG (X.blk s H scope (compEnvC scope cl C X.env) fp) tg g) (ht : ∀ (s : Shared) (H : Hp) (C : Addr) (cl : List (Str × Addr)) (fp : List Addr), PTs (X.blk s H scope (compEnvC scope cl C X.env) fp) ifs tt)
    (he : ∀ (pins : List (Addr × Obj)) (σ : St) (s : Shared) (H : Hp) (C : Addr) (cl : List (Str × Addr)) (fp : List Addr), Inv X pins σ H s → (∀ b ∈ fp, FpOk X pins H b) → PE (X.blk s H scope (compEnvC scope cl C X.env) fp) elt (te σ)) (hs : ∀ x, foldedSetIterable iter X.env x = pure x := by intro _; rfl) :
    PE X (.ListComp elt [⟨tg, iter, ifs, 0⟩] scope pos) (fun σ H Q => tLc wi g tt (te σ) (own.map (·.2)) σ H Q) := by
  intro pins s σ H Q I h
  rw [eval_ListComp]
  refine lcO_core hc hN I hi ok hg ht (he pins σ) hs h fun D C s' m H' I' q hn f => ⟨m, hn, fun h'' sb => ?_⟩
  obtain ⟨f0, f1, f2, f3, f4, f5⟩ := f
  exact ⟨.ref D, H', I'.turned (t' := s'.toks) (fun b o hb e => (sb.2 b hb).trans e) f0 f1 f3 f4 f5, rfl, q⟩
/-- f(..) in a block, of a def whose promise speaks of the outer names' cells -/
def tCallO (X : Cx) (σ0 : St) (sp : Heap → Sp) (dvs : List V) (E : St → XK) (t : TA) : TE := fun σ H Q => t σ H fun vs H1 => ∀ base', Mod X.K X.mg base' → CellsAt X.env.scope X.env.cells X.N σ0 base' → sp base' (vs ++ dvs) H1 Q (E σ)
theorem pe_callO {k : Nat} {f : Addr} {fd : FuncData} {ps : List Str} {sp : Heap → Sp} {dvs : List V} {ds : List Value} {E : St → XK} {x : Str} {p pos : Pos} {e : Expr} {es : List Expr} {t : TA} {pins0 : List (Addr × Obj)} {σ0 : St} {H0 : Hp} {s0 : Shared} {scope : Scope} {ce : Env} {fp : List Addr}
    (I0 : Inv X pins0 σ0 H0 s0) (hfp : ∀ b ∈ fp, FpOk X pins0 H0 b)
    (F : ∀ base', FnOk X.prog X.w X.K X.mg base' (CXr X.prog X.w) k f fd ps (sp base')) (hfn : ∀ x, X.fn x = true) (hr : Room k X.A) (hg : Gl (X.blk s0 H0 scope ce fp) x) (hm : X.mg x = some (.ref f)) (hk : PySem.W.keepIn X.K (.ref f) = true) (hb : Binds X.K fd ps ds) (hd : Vals dvs ds) (hx : XOk (X.blk s0 H0 scope ce fp) E)
    (ha : PA (X.blk s0 H0 scope ce fp) (e :: es) t) (hdb : (x == ("__debug__" : Str)) = false := by decide) (he : starEach (e :: es) ce = (false, eval e ce) :: starEach es ce := by rfl) (hpl : (backTo pos (starEach es ce)).any (·.1) = false := by rfl) :
    PE (X.blk s0 H0 scope ce fp) (.Call (.Name x p) (e :: es) [] pos) (tCallO X σ0 sp dvs E t) := by
  intro pins s σ H Q I h
  refine wpAny_Call_Name_kw (ld_glob I hg hm ?_ hdb)
  refine PySem.W.callWith_K (h₀ := X.base) I.ok.mod.kin hk (thn (ha pos pins s σ H _ I h) fun us s1 ⟨vs, H1, I1, r, q⟩ => ⟨I1.kIn, ?_⟩) he hpl
  have cells : CellsAt X.env.scope X.env.cells X.N σ0 (baseOf (X.blk s0 H0 scope ce fp) s1 H1) := by
    intro y c e
    have nf : c ∉ frs X.stack := fun hb => by
      rcases List.mem_cons.mp (I0.stkSub c hb) with z | z
      · exact I0.cne y c e z
      · obtain ⟨_, o, ho, _⟩ := I0.ok.funs.mem z
        exact absurd (Nat.lt_of_lt_of_le (Heap.lt_size ho) (I0.ok.cab y c (hfn y) e)) (Nat.lt_irrefl _)
    have nx : c ∉ fp := fun hb => (hfp c hb).2.2.2.2.1 y c e rfl
    have n0 := I0.freeC y c e
    obtain ⟨v, hv⟩ := I0.cell y c e
    obtain ⟨o, ho, hd⟩ := id hv
    have k1 : s1.heap.get? c = some o := I1.base.keep c o ho n0 nf nx
    have n1 : H1 c = none := I1.base.free c o ho n0 nx
    refine ⟨v, ⟨o, I1.baseGet k1 n1 nf, hd⟩, fun hk i w h1 h2 => ?_⟩
    obtain ⟨m, hn, hl⟩ := I0.loc
    obtain ⟨u, r, l⟩ := hl i y w h1 h2 (.inr (.inl hk))
    have hk' : X.env.kindOf y = some .cell := hk
    rcases l with ⟨z, _⟩ | ⟨_, c', e', hc'⟩
    · rw [hk'] at z; cases z
    · rw [e] at e'
      cases e'
      obtain ⟨o', ho', hd'⟩ := hc'
      rw [ho] at ho'; cases ho'
      rw [hd] at hd'
      cases hd'
      exact ⟨u, rfl, r⟩
  have q := q _ I1.modB cells
  have r2 : Vals (vs ++ dvs) (us ++ ds) := r.append hd
  have hl : (us ++ ds).length = ps.length := by rw [← r2.length]; exact (F _).len _ _ _ _ q
  refine wpAny_call (codeAny_mono ((F _).run X.A X.stack s1 H1 ⟨us, []⟩ (us ++ ds) (vs ++ dvs) Q (E σ) hr I1.envB (hb s1 us I1.kIn hl) r2 q) fun r s' hq => ?_)
  cases r with
  | error e => exact xok_pass hx I1 hq
  | ok fl =>
    cases fl with
    | ret u => exact I1.after hq
    | next => exact False.elim hq
    | brk => exact False.elim hq
    | cont => exact False.elim hq
end
end L2

set_option Elab.async false
set_option linter.all false
set_option maxRecDepth 100000
set_option maxHeartbeats 4000000
namespace L2
open PySem PySem.Spec PyProof.Rows
theorem op_is_bl {X : Cx} : OpR X (compareOp .Is) (fun x y H Q => ∃ a b, x = .bl a ∧ y = .bl b ∧ Q (.bl (decide (a = b))) H) := by
  intro pins s σ H x y v u Q I rx ry h
  obtain ⟨a, b, rfl, rfl, q⟩ := h
  cases rx
  cases ry
  have e : compareOp .Is (.bool a) (.bool b) = pure (.bool (decide (a = b))) := by
    cases a <;> cases b <;> rfl
  rw [e]
  exact wpAny_pure ⟨.bl (decide (a = b)), H, I, rfl, q⟩
end L2
namespace M
open PySem PySem.Spec PyProof.Rows L2
variable {P : Program} {w : World} {K : PySem.W.Frag} {mg : Str → Option Value} {base : Heap} {t : Adr}
/-! ### two sets: what both have, either, the first alone -/
def bothS (x y : Str) : Str := ⟨(x.cps.toList.filter fun c => decide (c ∈ y.cps.toList)).toArray⟩
def lackS (x y : Str) : Str := ⟨(x.cps.toList.filter fun c => !decide (c ∈ y.cps.toList)).toArray⟩
theorem bothS_mem {x y : Str} {c : Nat} : c ∈ (bothS x y).cps.toList ↔ c ∈ x.cps.toList ∧ c ∈ y.cps.toList := by
  show c ∈ (x.cps.toList.filter fun c => decide (c ∈ y.cps.toList)) ↔ _
  simp
theorem lackS_mem {x y : Str} {c : Nat} : c ∈ (lackS x y).cps.toList ↔ c ∈ x.cps.toList ∧ c ∉ y.cps.toList := by
  show c ∈ (x.cps.toList.filter fun c => !decide (c ∈ y.cps.toList)) ↔ _
  simp
theorem ok_both (T : Txt K mg t) : FnOk P w K mg base (CXr P w) 5 t.f_both t.d_both p_both (sp_two K t.c_NoSet fun x y => .str (bothS x y)) := by
  refine T.F_both.okX sc_both (fun vs H Q E h => ?_) (fun cdv A outer s H vs Q E hr h => ?_)
  · obtain ⟨v1, v2, d1, d2, rfl, _⟩ := h
    rfl
  · obtain ⟨v1, v2, d1, d2, rfl, h1, h2, q, r⟩ := h
    refine ⟨_, pss_cons (ps_expr (pe_callX (ok_need_set T) (hr.mono (by decide)) (by rfl) T.m_need_set T.F_need_set.kp T.b_need_set .nil xok_fn (pa_cons (pv 0) pa_nil)))
      (pss_cons (ps_expr (pe_callX (ok_need_set T) (hr.mono (by decide)) (by rfl) T.m_need_set T.F_need_set.kp T.b_need_set .nil xok_fn (pa_cons (pv 1) pa_nil)))
      (pss_one (ps_ret (pe_join pe_str (pe_lc (own := [("column", 2)]) (g := (gName 2)) (by rfl) sc_both.nd (pi_str (pv 0)) (blkOk_by (own := [("column", 2)]) (N := N_both) (sc := defScope s_both) (by decide +kernel))
  (fun _ _ _ _ _ => pg_name (i := 2) sc_both.nd rfl (Or.inl rfl)) (fun _ _ _ _ _ => pts_one (pt_cmpR op_in_sign (pv 2) (pv 1) rfl)) (fun _ _ _ _ _ => (pv 2))))))), ?_⟩
    refine ⟨_, rfl, v1, d1, rfl, h1, fun e1 H1 s1 => ?_, fun e1 H1 s1 => r (.inl e1) H1 s1⟩
    refine ⟨_, rfl, v2, d2, rfl, dp_same s1 _ _ h2, fun e2 H2 s2 => ?_, fun e2 H2 s2 => r (.inr e2) H2 (s1.trans s2)⟩
    obtain ⟨x, rfl, hx⟩ := isSetD_str e1
    obtain ⟨y, rfl, hy⟩ := isSetD_str e2
    cases h1
    cases h2
    have x8 := isSet_len hx
    rw [Array.length_toList] at x8
    refine ⟨⟨_, rfl⟩, _, rfl, x, rfl, fun E1 hE1 => ?_⟩
    refine lc_str (x := x) (keepF fun c => decide (c ∈ y.cps.toList)) (by rw [sizeLine_eq]; omega) (fun c hc acc N hz hn hy => ?_) ?_
    · refine ⟨rfl, _, rfl, _, rfl, c, y, rfl, rfl, _, rfl, ?_⟩
      rw [keepF_sgn] at hn hy
      refine ite2 (fun hin => ?_) (fun hin => ?_)
      · rw [if_pos hin] at hy
        exact ⟨_, rfl, acc, upd_same, hz, by rw [upd_upd]; exact hy _ rfl⟩
      · rw [if_neg hin] at hn
        exact hn rfl
    have ef : (sgns x).filterMap (keepF fun c => decide (c ∈ y.cps.toList)) = ((x.cps.toList.filter fun c => decide (c ∈ y.cps.toList)).map fun c => (⟨#[c]⟩ : Str)).map V.str := by
      rw [← map_str_sgn, ← filterMap_sgn x.cps.toList _ (keepF fun c => decide (c ∈ y.cps.toList)) fun c _ => keepF_sgn _ c]
    rw [ef]
    refine ⟨_, E1, _, rfl, rfl, .inl (SqL.of upd_same), ?_, ?_⟩
    · show _ + _ * (⟨#[]⟩ : Str).length ≤ _
      rw [len_sgns]
      have := List.length_filter_le (fun c => decide (c ∈ y.cps.toList)) x.cps.toList
      have e8 : x.cps.toList.length = x.cps.size := Array.length_toList
      omega
    have ew : Txt.join ("" : Str) ((x.cps.toList.filter fun c => decide (c ∈ y.cps.toList)).map fun c => (⟨#[c]⟩ : Str)) = bothS x y := join_sgns _
    rw [ew]
    exact q x y rfl rfl hx hy _ (s1.trans (s2.trans (same_new hE1)))
theorem ok_lacked (T : Txt K mg t) : FnOk P w K mg base (CXr P w) 5 t.f_lacked t.d_lacked p_lacked (sp_two K t.c_NoSet fun x y => .str (lackS x y)) := by
  refine T.F_lacked.okX sc_lacked (fun vs H Q E h => ?_) (fun cdv A outer s H vs Q E hr h => ?_)
  · obtain ⟨v1, v2, d1, d2, rfl, _⟩ := h
    rfl
  · obtain ⟨v1, v2, d1, d2, rfl, h1, h2, q, r⟩ := h
    refine ⟨_, pss_cons (ps_expr (pe_callX (ok_need_set T) (hr.mono (by decide)) (by rfl) T.m_need_set T.F_need_set.kp T.b_need_set .nil xok_fn (pa_cons (pv 0) pa_nil)))
      (pss_cons (ps_expr (pe_callX (ok_need_set T) (hr.mono (by decide)) (by rfl) T.m_need_set T.F_need_set.kp T.b_need_set .nil xok_fn (pa_cons (pv 1) pa_nil)))
      (pss_one (ps_ret (pe_join pe_str (pe_lc (own := [("column", 2)]) (g := (gName 2)) (by rfl) sc_lacked.nd (pi_str (pv 0)) (blkOk_by (own := [("column", 2)]) (N := N_lacked) (sc := defScope s_lacked) (by decide +kernel))
  (fun _ _ _ _ _ => pg_name (i := 2) sc_lacked.nd rfl (Or.inl rfl)) (fun _ _ _ _ _ => pts_one (pt_cmpR op_notIn_sign (pv 2) (pv 1) rfl)) (fun _ _ _ _ _ => (pv 2))))))), ?_⟩
    refine ⟨_, rfl, v1, d1, rfl, h1, fun e1 H1 s1 => ?_, fun e1 H1 s1 => r (.inl e1) H1 s1⟩
    refine ⟨_, rfl, v2, d2, rfl, dp_same s1 _ _ h2, fun e2 H2 s2 => ?_, fun e2 H2 s2 => r (.inr e2) H2 (s1.trans s2)⟩
    obtain ⟨x, rfl, hx⟩ := isSetD_str e1
    obtain ⟨y, rfl, hy⟩ := isSetD_str e2
    cases h1
    cases h2
    have x8 := isSet_len hx
    rw [Array.length_toList] at x8
    refine ⟨⟨_, rfl⟩, _, rfl, x, rfl, fun E1 hE1 => ?_⟩
    refine lc_str (x := x) (keepF fun c => !decide (c ∈ y.cps.toList)) (by rw [sizeLine_eq]; omega) (fun c hc acc N hz hn hy => ?_) ?_
    · refine ⟨rfl, _, rfl, _, rfl, c, y, rfl, rfl, _, rfl, ?_⟩
      rw [keepF_sgn] at hn hy
      refine ite2 (fun hin => ?_) (fun hin => ?_)
      · rw [if_pos hin] at hy
        exact ⟨_, rfl, acc, upd_same, hz, by rw [upd_upd]; exact hy _ rfl⟩
      · rw [if_neg hin] at hn
        exact hn rfl
    have ef : (sgns x).filterMap (keepF fun c => !decide (c ∈ y.cps.toList)) = ((x.cps.toList.filter fun c => !decide (c ∈ y.cps.toList)).map fun c => (⟨#[c]⟩ : Str)).map V.str := by
      rw [← map_str_sgn, ← filterMap_sgn x.cps.toList _ (keepF fun c => !decide (c ∈ y.cps.toList)) fun c _ => keepF_sgn _ c]
    rw [ef]
    refine ⟨_, E1, _, rfl, rfl, .inl (SqL.of upd_same), ?_, ?_⟩
    · show _ + _ * (⟨#[]⟩ : Str).length ≤ _
      rw [len_sgns]
      have := List.length_filter_le (fun c => !decide (c ∈ y.cps.toList)) x.cps.toList
      have e8 : x.cps.toList.length = x.cps.size := Array.length_toList
      omega
    have ew : Txt.join ("" : Str) ((x.cps.toList.filter fun c => !decide (c ∈ y.cps.toList)).map fun c => (⟨#[c]⟩ : Str)) = lackS x y := join_sgns _
    rw [ew]
    exact q x y rfl rfl hx hy _ (s1.trans (s2.trans (same_new hE1)))
theorem ok_either (T : Txt K mg t) : FnOk P w K mg base (CXr P w) 5 t.f_either t.d_either p_either (sp_two K t.c_NoSet fun x y => .str (setOf (x ++ y))) := by
  refine T.F_either.okX sc_either (fun vs H Q E h => ?_) (fun cdv A outer s H vs Q E hr h => ?_)
  · obtain ⟨v1, v2, d1, d2, rfl, _⟩ := h
    rfl
  · obtain ⟨v1, v2, d1, d2, rfl, h1, h2, q, r⟩ := h
    refine ⟨_, pss_cons (ps_expr (pe_callX (ok_need_set T) (hr.mono (by decide)) (by rfl) T.m_need_set T.F_need_set.kp T.b_need_set .nil xok_fn (pa_cons (pv 0) pa_nil)))
      (pss_cons (ps_expr (pe_callX (ok_need_set T) (hr.mono (by decide)) (by rfl) T.m_need_set T.F_need_set.kp T.b_need_set .nil xok_fn (pa_cons (pv 1) pa_nil)))
      (pss_one (ps_ret (pe_callX (ok_set_of T) (hr.mono (by decide)) (by rfl) T.m_set_of T.F_set_of.kp T.b_set_of .nil xok0 (pa_cons (pe_op op_add_str (pv 0) (pv 1)) pa_nil))))), ?_⟩
    refine ⟨_, rfl, v1, d1, rfl, h1, fun e1 H1 s1 => ?_, fun e1 H1 s1 => r (.inl e1) H1 s1⟩
    refine ⟨_, rfl, v2, d2, rfl, dp_same s1 _ _ h2, fun e2 H2 s2 => ?_, fun e2 H2 s2 => r (.inr e2) H2 (s1.trans s2)⟩
    obtain ⟨x, rfl, hx⟩ := isSetD_str e1
    obtain ⟨y, rfl, hy⟩ := isSetD_str e2
    cases h1
    cases h2
    have x8 := isSet_len hx
    have y8 := isSet_len hy
    rw [Array.length_toList] at x8 y8
    exact ⟨_, rfl, _, rfl, x, y, rfl, rfl, (by show x.cps.size + y.cps.size ≤ sizeLine; rw [sizeLine_eq]; omega), _, rfl, fun H3 s3 => q x y rfl rfl hx hy H3 (s1.trans (s2.trans s3))⟩
end M

set_option Elab.async false
set_option linter.all false
set_option maxRecDepth 100000
set_option maxHeartbeats 4000000
namespace M
open PySem PySem.Spec PyProof.Rows L2
variable {P : Program} {w : World} {K : PySem.W.Frag} {mg : Str → Option Value} {base : Heap} {t : Adr}
/-! ### all sets that lie in a set -/
theorem app_cps (x y : Str) : (x ++ y).cps.toList = x.cps.toList ++ y.cps.toList := Array.toList_append ..
end M

set_option Elab.async false
set_option linter.all false
set_option maxRecDepth 100000
set_option maxHeartbeats 4000000
namespace M
open PySem PySem.Spec PyProof.Rows L2
variable {P : Program} {w : World} {K : PySem.W.Frag} {mg : Str → Option Value} {base : Heap} {t : Adr}
/-! ### texts of few plain signs -/
def Asc (n : Nat) (z : Str) : Prop := z.cps.size ≤ n ∧ ∀ c ∈ z.cps.toList, c < 128
theorem Asc.mono {n m : Nat} {z : Str} (h : Asc n z) (l : n ≤ m) : Asc m z := ⟨Nat.le_trans h.1 l, h.2⟩
theorem Asc.app {n m : Nat} {x y : Str} (h : Asc n x) (h' : Asc m y) : Asc (n + m) (x ++ y) := by
  have e : (x ++ y).cps.toList = x.cps.toList ++ y.cps.toList := app_cps x y
  refine ⟨?_, fun c hc => ?_⟩
  · have e2 : (x ++ y).cps.size = (x ++ y).cps.toList.length := by simp
    rw [e2, e, List.length_append, Array.length_toList, Array.length_toList]
    exact Nat.add_le_add h.1 h'.1
  · rw [e] at hc
    exact (List.mem_append.mp hc).elim (h.2 c) (h'.2 c)
theorem Asc.set {z : Str} (h : isSet z = true) : Asc 8 z := by
  have := isSet_len h
  rw [Array.length_toList] at this
  refine ⟨this, fun c hc => ?_⟩
  have : ∀ c ∈ cols, c < 128 := by decide
  exact this c ((sub_isSet h).subset hc)
theorem Asc.cut {n : Nat} {z : Str} (h : Asc n z) (lo hi : Option Int) : Asc n (cutS z lo hi) :=
  ⟨Nat.le_trans (cutS_length z lo hi) h.1, fun c hc => by
    have hc : c ∈ ((z.cps.toList.drop (HT.sIx z.length 0 lo)).take (HT.sIx z.length z.length hi - HT.sIx z.length 0 lo)) := hc
    exact h.2 c (List.mem_of_mem_drop (List.mem_of_mem_take hc))⟩
theorem Asc.rev {n : Nat} {z : Str} (h : Asc n z) : Asc n (revS z) := by
  refine ⟨?_, fun c hc => ?_⟩
  · show z.cps.toList.reverse.toArray.size ≤ n
    simpa using h.1
  · have hc : c ∈ z.cps.toList.reverse := hc
    exact h.2 c (List.mem_reverse.mp hc)
theorem upper_list : ∀ (cs : List Nat), (∀ c ∈ cs, c < 128) → Txt.upper ⟨cs.toArray⟩ = ⟨(cs.map fun c => if 97 ≤ c ∧ c ≤ 122 then c - 32 else c).toArray⟩
  | [], _ => by decide +kernel
  | c :: cs, h => by
    have e : (⟨(c :: cs).toArray⟩ : Str) = ⟨#[c]⟩ ++ ⟨cs.toArray⟩ := str_ext (by rw [app_cps]; rfl)
    rw [e, PySem.W.KOpn.upper_app, PySem.W.KOpn.upper_one (h c (.head _)), upper_list cs fun d hd => h d (.tail _ hd)]
    exact str_ext (by rw [app_cps]; rfl)
theorem Asc.up {n : Nat} {z : Str} (h : Asc n z) : Asc n (Txt.upper z) := by
  obtain ⟨⟨cs⟩⟩ := z
  rw [upper_list cs h.2]
  refine ⟨?_, fun c hc => ?_⟩
  · have := h.1
    simpa using this
  · have hc : c ∈ cs.map fun c => if 97 ≤ c ∧ c ≤ 122 then c - 32 else c := hc
    obtain ⟨d, hd, rfl⟩ := List.mem_map.mp hc
    have := h.2 d hd
    split <;> omega
theorem fine_asc {n : Nat} {x : Str} (h : Asc n x) (k : Nat) : Fine (.str x) n k := by
  refine ⟨?_, ?_, rfl, by simp [PyData.depth], by rw [PyData.bulk]; exact h.1⟩
  · simp only [PyData.leavesShort, List.all_eq_true, decide_eq_true_eq]
    intro c hc
    have := h.2 c hc
    omega
  · simp only [PyData.canLay0, PyData.strOk, Array.all_eq_true', decide_eq_true_eq]
    intro c hc
    have h1 := h.2 c (by simpa using hc)
    omega
theorem Asc.len {n m : Nat} {x y : Str} (h : Asc n x) (h' : Asc m y) (l : n + m ≤ 100 := by decide) : x.length + y.length ≤ sizeLine := by
  have h1 := h.1
  have h2 := h'.1
  show x.cps.size + y.cps.size ≤ sizeLine
  rw [sizeLine_eq]
  omega
theorem asc_shows {n : Nat} {x : Str} (h : Asc n x) (hn : n ≤ 1000) : Shows (.str x) := (fine_asc h 1).shows hn (by decide)
theorem shows_non : Shows .none := by
  refine ⟨rfl, rfl, ?_, ?_⟩
  · simp [PyData.depth]
  · decide +kernel
theorem shows_bl (b : Bool) : Shows (.bool b) := by
  refine ⟨rfl, rfl, ?_, ?_⟩
  · show PyData.depth (.bool b) ≤ 20
    simp [PyData.depth]
  · cases b <;> decide +kernel
theorem shows_seven : Shows (.int 7) := by
  refine ⟨rfl, rfl, ?_, ?_⟩
  · simp [PyData.depth]
  · decide +kernel
theorem fine_signs : ∀ (cs : List Nat), (∀ c ∈ cs, c < 128) → FineAll (cs.map fun c => PyData.str ⟨#[c]⟩) (cs.length * 2) 1
  | [], _ => .nil 1
  | c :: cs, h => by
    have a1 : Asc 1 (⟨#[c]⟩ : Str) := ⟨Nat.le_refl _, fun d hd => by
      have : d = c := by simpa using hd
      rw [this]
      exact h c (.head _)⟩
    have := FineAll.cons (fine_asc a1 1) (fine_signs cs fun d hd => h d (.tail _ hd))
    rw [List.map_cons, List.length_cons]
    have e : (cs.length + 1) * 2 = 1 + 1 + cs.length * 2 := by omega
    rw [e]
    exact this
theorem dp_sgns {H : Hp} : ∀ (cs : List Nat), DpAll K H (cs.map sgn) (cs.map fun c => PyData.str ⟨#[c]⟩)
  | [] => .nil
  | c :: cs => .cons (.str _) (dp_sgns cs)
theorem none_backZ {H H' : Hp} {a : Addr} (s : Same H H') (h : H' a = none) : H a = none := by
  cases e : H a with
  | none => rfl
  | some o => rw [s _ _ e] at h; cases h
def bentS : Str := "abcdefghijxzABCH-_>:/,. 0189\t\n"
theorem bentS_len : bentS.cps.size = 30 := by decide +kernel
theorem bentS_asc : ∀ c ∈ bentS.cps.toList, c < 128 := by decide +kernel
/-- what is bent: any data, such as repr shows -/
def BentT (K : PySem.W.Frag) (H : Hp) (v : V) (d : PyData) : Prop := Dp K H v d ∧ Shows d ∧ ∀ z, d = .str z → Asc 20 z
theorem BentT.of {H : Hp} {z : Str} (h : Asc 20 z) : BentT K H (.str z) (.str z) := ⟨.str z, asc_shows h (by decide), fun u e => by cases e; exact h⟩
def sp_text_bent (K : PySem.W.Frag) : Sp := fun vs H Q _ => ∃ (p : Addr) (z : Str), vs = [.ref p, .str z] ∧ StAt H p ∧ isSet z = true ∧ ∀ v d H', Mv p H H' → BentT K H' v d → Q v H'
theorem ok_text_bent (T : Txt K mg t) : FnOk P w K mg base (CXr P w) 3 t.f_text_bent t.d_text_bent p_text_bent (sp_text_bent K) := by
  refine T.F_text_bent.okN sc_text_bent (fun vs H Q E h => ?_) (fun cdv A outer s H vs Q E hr h => ?_)
  · obtain ⟨p, z, rfl, _⟩ := h
    rfl
  · obtain ⟨p, z, rfl, hst, hz, q⟩ := h
    refine ⟨_, pss_cons (ps_par (i := 2) (j := 3) (by rfl) sc_text_bent.nd rfl rfl (by decide) rfl rfl (pa_cons (pe_callX (ok_choice T) (hr.mono (by decide)) (by rfl) T.m_choice T.F_choice.kp T.b_choice .nil xok0 (pa_cons (pv 0) (pa_cons pe_int pa_nil))) (pa_cons pe_str pa_nil)) (by rfl))
      (pss_cons (ps_par (i := 4) (j := 5) (by rfl) sc_text_bent.nd rfl rfl (by decide) rfl rfl (pa_cons (pe_callX (ok_choice T) (hr.mono (by decide)) (by rfl) T.m_choice T.F_choice.kp T.b_choice .nil xok0 (pa_cons (pv 0) (pa_cons (pe_op op_add (pe_callB call_len_str (by rfl) T.n_len PySem.boot_len (pa_cons (pv 1) pa_nil)) pe_int) pa_nil))) (pa_cons (pe_item_str (pv 3) (pe_callX (ok_choice T) (hr.mono (by decide)) (by rfl) T.m_choice T.F_choice.kp T.b_choice .nil xok0 (pa_cons (pv 0) (pa_cons pe_int pa_nil))) (fun _ _ => rfl)) pa_nil)) (by rfl))
      (pss_cons (ps_if (pt_cmpR op_gt (pv 2) pe_int (nomark _)) (pss_one (ps_ret (pe_ix ix_list (pe_lst (pa_cons pe_non (pa_cons pe_int (pa_cons pe_bl (pa_cons (pe_callTy (call_listS rfl) (by rfl) T.n_list (by decide +kernel) (pa_cons (pv 1) pa_nil)) (pa_cons (pe_tup (pa_cons (pv 1) pa_nil)) pa_nil)))))) (pe_callX (ok_choice T) (hr.mono (by decide)) (by rfl) T.m_choice T.F_choice.kp T.b_choice .nil xok0 (pa_cons (pv 0) (pa_cons pe_int pa_nil))) (fun _ _ => rfl)))) pss_nil)
      (pss_cons (ps_set (i := 6) sc_text_bent.nd rfl (Or.inl rfl) (pe_lst (pa_cons (pe_op op_add_str (pe_op op_add_str (pe_slice sl_str (pv 1) po_none (po_some (pv 4))) (pv 5)) (pe_slice sl_str (pv 1) (po_some (pv 4)) po_none)) (pa_cons (pe_op op_add_str (pe_slice sl_str (pv 1) po_none (po_some (pv 4))) (pe_slice sl_str (pv 1) (po_some (pe_op op_add (pv 4) pe_int)) po_none)) (pa_cons (pe_slRevS (pv 1) (pe_un un_neg pe_int)) (pa_cons (pe_op op_add_str (pv 1) (pe_slice sl_str (pv 1) (po_some (pe_un un_neg pe_int)) po_none)) (pa_cons (pe_bm0 PySem.F.plainAttrs_str PySem.F.slot_str_upper PySem.F.type_str_upper mt_upper (pv 1)) pa_nil)))))))
      (pss_one (ps_ret (pe_ix ix_list (pe_op op_cat (pv 6) (pe_lst (pa_cons (pv 5) (pa_cons (pe_op op_add_str (pe_slice sl_str (pv 1) (po_some (pv 4)) po_none) (pe_slice sl_str (pv 1) po_none (po_some (pv 4)))) (pa_cons (pe_op op_add_str (pe_op op_add_str (pe_slice sl_str (pv 1) po_none (po_some (pv 4))) (pv 5)) (pe_slice sl_str (pv 1) (po_some (pe_op op_add (pv 4) pe_int)) po_none)) pa_nil))))) (pv 2) (fun _ _ => rfl))))))), ?_⟩
    have z8 := (Asc.set hz).1
    have az := Asc.set hz
    refine ⟨_, rfl, p, 10, rfl, hst, by decide, by decide, fun r H1 r0 r1 m1 => ⟨_, _, rfl, ?_⟩⟩
    obtain ⟨way, rfl⟩ : ∃ k : Nat, r = (k : Int) := ⟨r.toNat, by omega⟩
    refine ⟨_, rfl, _, rfl, z, rfl, by show z.cps.size ≤ sizeLine; rw [sizeLine_eq]; omega, _, _, rfl, rfl, p, _, rfl, m1.st, ?_, ?_, fun at_ H2 a0 a1 m2 => ?_⟩
    · show (0 : Int) < ((z.cps.size : Nat) : Int) + 1
      omega
    · show ((z.cps.size : Nat) : Int) + 1 < 1073741824
      omega
    refine ⟨_, rfl, _, rfl, p, 30, rfl, m2.st, by decide, by decide, fun g H3 g0 g1 m3 => ?_⟩
    have gl : g.toNat < bentS.cps.size := by rw [bentS_len]; omega
    refine ⟨bentS, g, bentS.cps[g.toNat], rfl, rfl, g0, by omega, by show g < ((bentS.cps.size : Nat) : Int); rw [bentS_len]; exact g1, by simp [gl], _, _, rfl, ?_⟩
    have hc : bentS.cps[g.toNat] ∈ bentS.cps.toList := by simp
    have c128 := bentS_asc _ hc
    generalize bentS.cps[g.toNat] = c at c128
    have ac : Asc 1 (⟨#[c]⟩ : Str) := ⟨Nat.le_refl _, fun d hd => by
      have : d = c := by simpa using hd
      rw [this]; exact c128⟩
    have m3' := m1.trans (m2.trans m3)
    clear m1 m2 m3 a1 g0 g1 gl hc
    have zl : z.length ≤ sizeLine := by show z.cps.size ≤ sizeLine; rw [sizeLine_eq]; omega
    refine ⟨_, rfl, _, _, rfl, rfl, _, rfl, ?_⟩
    refine ite2 (fun h8 => ?_) (fun h8 => ?_)
    · -- no text, or a text's signs
      refine ⟨_, rfl, z, rfl, zl, fun L hL => ?_⟩
      have s1 := same_new (o := .lst (sgns z)) hL
      refine ⟨_, rfl, by show 1 ≤ sizeLine; decide, fun u hu => ?_⟩
      have s2 := same_new (o := .tup [.str z]) hu
      refine ⟨by show 5 ≤ sizeLine; decide, fun D hD => ?_⟩
      have s3 := same_new (o := .lst [.non, .int 7, .bl true, .ref L, .ref u]) hD
      have m4 := m3'.same (s1.trans (s2.trans s3))
      have hL4 := (s2.trans s3) _ _ (upd_same (H := H3) (a := L) (o := .lst (sgns z)))
      have hu4 := s3 _ _ (upd_same (H := upd H3 L (.lst (sgns z))) (a := u) (o := .tup [.str z]))
      have np : ∀ {c : Addr}, H3 c = none → c ≠ p := fun hc e => by
        obtain ⟨_, _, _, e2, _⟩ := m3'.st.ex
        rw [e, e2] at hc; cases hc
      have nL := np hL
      have nu := np (none_backZ s1 hu)
      have nD := np (none_backZ (s1.trans s2) hD)
      refine ⟨_, rfl, p, 5, rfl, m4.st, by decide, by decide, fun r H5 r0 r1 m5 => ?_⟩
      have hD5 := m5.keep upd_same nD
      have hL5 := m5.keep hL4 nL
      have hu5 := m5.keep hu4 nu
      obtain ⟨j, rfl⟩ : ∃ j : Nat, r = (j : Int) := ⟨r.toNat, by omega⟩
      have hj : j < 5 := by omega
      obtain ⟨v, d, hv, hb⟩ : ∃ v d, [V.non, .int 7, .bl true, .ref L, .ref u][j]? = some v ∧ BentT K H5 v d := by
        match j, hj with
        | 0, _ => exact ⟨_, _, rfl, .non, shows_non, fun z e => nomatch e⟩
        | 1, _ => exact ⟨_, _, rfl, .int 7, shows_seven, fun z e => nomatch e⟩
        | 2, _ => exact ⟨_, _, rfl, .bl true, shows_bl true, fun z e => nomatch e⟩
        | 3, _ => exact ⟨_, _, rfl, .lst (SqL.of hL5) (dp_sgns z.cps.toList), (FineAll.lst (fine_signs _ az.2)).shows (by have : z.cps.toList.length ≤ 8 := by simpa using z8
                                                                                                                          omega) (by decide), fun z e => nomatch e⟩
        | 4, _ => exact ⟨_, _, rfl, .tup (SqT.of hu5) (.cons (.str z) .nil), (FineAll.tup (.cons (fine_asc az 1) (.nil 1))).shows (by decide) (by decide), fun z e => nomatch e⟩
      refine ⟨D, _, _, v, rfl, rfl, SqL.of hD5, atI_nat hv, ?_⟩
      exact q v d H5 (m4.trans m5) hb
    · have c1 := az.cut none (some at_)
      have c2 := az.cut (some at_) none
      have c3 := az.cut (some (at_ + 1)) none
      have c4 := az.cut (some (-1)) none
      refine ⟨_, rfl, _, rfl, _, rfl, z, rfl, zl, _, rfl, _, _, rfl, rfl, c1.len ac, _, rfl, _, rfl, _, rfl, z, rfl, zl, _, _, rfl, rfl, (c1.app ac).len c2, ?_⟩
      refine ⟨_, rfl, _, rfl, _, rfl, z, rfl, zl, _, rfl, _, rfl, _, _, rfl, rfl, _, rfl, z, rfl, zl, _, _, rfl, rfl, c1.len c3, ?_⟩
      refine ⟨_, rfl, _, rfl, rfl, z, rfl, zl, ?_⟩
      refine ⟨_, rfl, _, rfl, _, rfl, _, rfl, z, rfl, zl, _, _, rfl, rfl, az.len c4, ?_⟩
      refine ⟨_, rfl, rfl, z, rfl, rfl, by show z.cps.size ≤ 5592405; omega, ?_⟩
      refine ⟨by show 5 ≤ sizeLine; decide, fun D hD => ?_⟩
      have s1 := same_new (o := .lst [.str (cutS z none (some at_) ++ ⟨#[c]⟩ ++ cutS z (some at_) none), .str (cutS z none (some at_) ++ cutS z (some (at_ + 1)) none), .str (revS z), .str (z ++ cutS z (some (-1)) none), .str (Txt.upper z)]) hD
      refine ⟨_, rfl, _, rfl, _, rfl, _, rfl, _, rfl, z, rfl, zl, _, rfl, _, rfl, _, rfl, z, rfl, zl, _, _, rfl, rfl, c2.len c1, ?_⟩
      refine ⟨_, rfl, _, rfl, _, rfl, z, rfl, zl, _, rfl, _, _, rfl, rfl, c1.len ac, _, rfl, _, rfl, _, _, rfl, rfl, _, rfl, z, rfl, zl, _, _, rfl, rfl, (c1.app ac).len c3, ?_⟩
      refine ⟨by show 3 ≤ sizeLine; decide, fun D2 hD2 => ?_⟩
      have s2 := same_new (o := .lst [.str (⟨#[c]⟩ : Str), .str (cutS z (some at_) none ++ cutS z none (some at_)), .str (cutS z none (some at_) ++ ⟨#[c]⟩ ++ cutS z (some (at_ + 1)) none)]) hD2
      refine ⟨D, D2, _, _, rfl, rfl, s2 _ _ upd_same, upd_same, by show 8 ≤ sizeLine; decide, fun D3 hD3 => ?_⟩
      have s3 := same_new (o := .lst ([.str (cutS z none (some at_) ++ ⟨#[c]⟩ ++ cutS z (some at_) none), .str (cutS z none (some at_) ++ cutS z (some (at_ + 1)) none), .str (revS z), .str (z ++ cutS z (some (-1)) none), .str (Txt.upper z)] ++ [.str (⟨#[c]⟩ : Str), .str (cutS z (some at_) none ++ cutS z none (some at_)), .str (cutS z none (some at_) ++ ⟨#[c]⟩ ++ cutS z (some (at_ + 1)) none)])) hD3
      have m4 := m3'.same (s1.trans (s2.trans s3))
      have hw : way < 8 := by
        have h8 : ¬ (7 : Int) < (way : Int) := by simpa using h8
        omega
      have A := fun {u : Str} (a : Asc 20 u) => BentT.of (K := K) (H := upd (upd (upd H3 D (.lst [.str (cutS z none (some at_) ++ ⟨#[c]⟩ ++ cutS z (some at_) none), .str (cutS z none (some at_) ++ cutS z (some (at_ + 1)) none), .str (revS z), .str (z ++ cutS z (some (-1)) none), .str (Txt.upper z)])) D2 (.lst [.str (⟨#[c]⟩ : Str), .str (cutS z (some at_) none ++ cutS z none (some at_)), .str (cutS z none (some at_) ++ ⟨#[c]⟩ ++ cutS z (some (at_ + 1)) none)])) D3 (.lst ([.str (cutS z none (some at_) ++ ⟨#[c]⟩ ++ cutS z (some at_) none), .str (cutS z none (some at_) ++ cutS z (some (at_ + 1)) none), .str (revS z), .str (z ++ cutS z (some (-1)) none), .str (Txt.upper z)] ++ [.str (⟨#[c]⟩ : Str), .str (cutS z (some at_) none ++ cutS z none (some at_)), .str (cutS z none (some at_) ++ ⟨#[c]⟩ ++ cutS z (some (at_ + 1)) none)]))) a
      obtain ⟨u, hv, au⟩ : ∃ u, ([V.str (cutS z none (some at_) ++ ⟨#[c]⟩ ++ cutS z (some at_) none), .str (cutS z none (some at_) ++ cutS z (some (at_ + 1)) none), .str (revS z), .str (z ++ cutS z (some (-1)) none), .str (Txt.upper z)] ++ [.str (⟨#[c]⟩ : Str), .str (cutS z (some at_) none ++ cutS z none (some at_)), .str (cutS z none (some at_) ++ ⟨#[c]⟩ ++ cutS z (some (at_ + 1)) none)])[way]? = some (V.str u) ∧ Asc 20 u := by
        match way, hw with
        | 0, _ => exact ⟨_, rfl, ((c1.app ac).app c2).mono (by decide)⟩
        | 1, _ => exact ⟨_, rfl, (c1.app c3).mono (by decide)⟩
        | 2, _ => exact ⟨_, rfl, az.rev.mono (by decide)⟩
        | 3, _ => exact ⟨_, rfl, (az.app c4).mono (by decide)⟩
        | 4, _ => exact ⟨_, rfl, az.up.mono (by decide)⟩
        | 5, _ => exact ⟨_, rfl, ac.mono (by decide)⟩
        | 6, _ => exact ⟨_, rfl, (c2.app c1).mono (by decide)⟩
        | 7, _ => exact ⟨_, rfl, ((c1.app ac).app c3).mono (by decide)⟩
      refine ⟨_, rfl, D3, _, _, .str u, rfl, rfl, SqL.of upd_same, atI_nat hv, ?_⟩
      exact q _ _ _ m4 (A au)
end M

set_option Elab.async false
set_option linter.all false
set_option maxRecDepth 100000
set_option maxHeartbeats 4000000
namespace M
open PySem PySem.Spec PyProof.Rows L2
variable {P : Program} {w : World} {K : PySem.W.Frag} {mg : Str → Option Value} {base : Heap} {t : Adr}
theorem sort_set {x : Str} (hc : ∀ c ∈ x.cps.toList, c ∈ cols) {ys : List Str} (nd : ys.Nodup) (hm : ∀ c, c ∈ ys ↔ ∃ d ∈ x.cps.toList, c = ⟨#[d]⟩) (so : ys.Pairwise fun a b => bltS b a = false) : ys = (setOf x).cps.toList.map sg := by
  let hd : Str → Nat := fun y => y.cps.toList.headD 0
  have e1 : ys = (ys.map hd).map sg := by
    rw [List.map_map]
    conv => lhs; rw [← List.map_id ys]
    refine List.map_congr_left fun y hy => ?_
    obtain ⟨d, _, rfl⟩ := (hm y).mp hy
    rfl
  have nd1 : (ys.map hd).Nodup := by
    rw [e1] at nd
    exact (List.pairwise_map.mp nd).imp fun h e => h (by rw [e])
  have m1 : ∀ c, c ∈ ys.map hd ↔ c ∈ cols.filter fun c => decide (c ∈ x.cps.toList) := fun c => by
    rw [List.mem_filter]
    constructor
    · intro h
      obtain ⟨y, hy, rfl⟩ := List.mem_map.mp h
      obtain ⟨d, hd', rfl⟩ := (hm y).mp hy
      exact ⟨hc d hd', decide_eq_true hd'⟩
    · intro h
      exact List.mem_map.mpr ⟨sg c, (hm _).mpr ⟨c, of_decide_eq_true h.2, rfl⟩, rfl⟩
  have p2 := perm_nodup nd1 (List.Nodup.sublist List.filter_sublist (by decide)) m1
  have s1 : (ys.map hd).Pairwise (· ≤ ·) := by
    rw [e1, List.pairwise_map] at so
    refine so.imp fun {a b} h => ?_
    have h : decide ([b] < [a]) = false := h
    have h := of_decide_eq_false h
    rcases Nat.lt_or_ge b a with z | z
    · exact absurd (List.cons_lt_cons_iff.mpr (.inl z)) h
    · exact z
  have s2 : (cols.filter fun c => decide (c ∈ x.cps.toList)).Pairwise (· ≤ ·) := List.Pairwise.sublist List.filter_sublist (by decide)
  have e2 : ys.map hd = cols.filter fun c => decide (c ∈ x.cps.toList) := List.Perm.eq_of_pairwise (fun a b _ _ h1 h2 => Nat.le_antisymm h1 h2) s1 s2 p2
  rw [e1, e2]
  rfl
theorem eqv_texts : ∀ (a b : List Str), PyData.eqv (.list (a.map PyData.str)) (.list (b.map PyData.str)) = decide (a = b) := by
  intro a b
  simp only [PyData.eqv]
  induction a generalizing b with
  | nil => cases b <;> simp [PyData.eqvAll]
  | cons c a ih =>
    cases b with
    | nil => simp [PyData.eqvAll]
    | cons d b => simp only [List.map_cons, PyData.eqvAll, PyData.eqv, ih]; by_cases h : c = d <;> simp [h]
theorem isi_str {H : Hp} {v : V} {d : PyData} (h : Dp K H v d) : ∃ T, TyX K H v T ∧ PySem.W.kitOne K T (.type "str") = some (match d with | .str _ => true | _ => false) := by
  cases h with
  | non => exact ⟨_, .of .non, kit_str_no (by simp)⟩
  | bl b => exact ⟨_, .of (.bl b), kit_str_no (by simp)⟩
  | int i => exact ⟨_, .of (.int i), kit_str_no (by simp)⟩
  | str x => exact ⟨_, .of (.str x), kit_str_yes⟩
  | lst hs _ => exact ⟨_, .sqL hs, kit_str_no (by simp)⟩
  | tup hs _ => exact ⟨_, .sqT hs, kit_str_no (by simp)⟩
/-- a set, and of these columns -/
def inSetD (y : Str) : PyData → Bool
  | .str z => isSet z && liesB z y
  | _ => false
theorem signs_shaped {n : Nat} {z : Str} (h : Asc n z) (l : List Nat) (s : ∀ c ∈ l, c ∈ z.cps.toList) : SeqAt.shaped (.list (l.map fun c => PyData.str ⟨#[c]⟩)) = true :=
  (FineAll.lst (fine_signs l fun c hc => h.2 c (s c hc))).shaped (by decide)
theorem signs_data (l : List Nat) : (l.map fun c => PyData.str ⟨#[c]⟩) = (l.map sg).map PyData.str := by rw [List.map_map]; rfl
theorem sg_inj {a b : Nat} (h : sg a = sg b) : a = b := by
  have := congrArg (fun z : Str => z.cps.toList) h
  simpa [sg] using this
theorem map_sg_inj : ∀ {a b : List Nat}, a.map sg = b.map sg → a = b
  | [], [], _ => rfl
  | [], _ :: _, h => by cases h
  | _ :: _, [], h => by cases h
  | x :: a, y :: b, h => by
    rw [List.map_cons, List.map_cons] at h
    injection h with h1 h2
    rw [sg_inj h1, map_sg_inj h2]
def sp_l_is_set (K : PySem.W.Frag) : Sp := fun vs H Q _ => ∃ (v : V) (d : PyData) (y : Str), vs = [v, .str y] ∧ Dp K H v d ∧ (∀ z, d = .str z → Asc 20 z) ∧ isSet y = true ∧ ∀ H', Same H H' → Q (.bl (inSetD y d)) H'
theorem ok_l_is_set (T : Txt K mg t) : FnOk P w K mg base (CXr P w) 1 t.f_l_is_set t.d_l_is_set p_l_is_set (sp_l_is_set K) := by
  refine T.F_l_is_set.okN sc_l_is_set (fun vs H Q E h => ?_) (fun cdv A outer s H vs Q E hr h => ?_)
  · obtain ⟨v, d, y, rfl, _⟩ := h
    rfl
  · obtain ⟨v, d, y, rfl, hd, ha, hy, q⟩ := h
    refine ⟨_, pss_cons (ps_if (pt_not (pt_val (pe_callB call_isi (by rfl) T.n_isinstance (by decide +kernel) (pa_cons (pv 0) (pa_cons (pe_bltn (v := .ty "str") (by rfl) T.n_str (by decide +kernel) rfl) pa_nil))))) (pss_one (ps_ret pe_bl)) pss_nil)
      (pss_one (ps_ret (pe_and (pe_cmpR (op_eqD hr.units) (pe_lc (own := [("_law_sign", 2)]) (g := (gName 2)) (by rfl) sc_l_is_set.nd (pi_str (pv 0)) (blkOk_by (own := [("_law_sign", 2)]) (N := N_l_is_set) (sc := defScope s_l_is_set) (by decide +kernel))
  (fun _ _ _ _ _ => pg_name (i := 2) sc_l_is_set.nd rfl (Or.inl rfl)) (fun _ _ _ _ _ => pts_one (pt_cmpR op_notIn_sign (pv 2) (pv 1) rfl)) (fun _ _ _ _ _ => (pv 2))) (pe_lst pa_nil) (nomark _)) (pe_one (pe_cmpR (op_eqD hr.units) (pe_sortSet rfl (by rfl) T.n_sorted (by rfl) T.n_set (pv 0)) (pe_callTy (call_listS rfl) (by rfl) T.n_list (by decide +kernel) (pa_cons (pv 0) pa_nil)) (nomark _)))))), ?_⟩
    obtain ⟨ty, hty, hkit⟩ := isi_str hd
    refine ⟨_, rfl, _, _, _, _, rfl, hty, (fun z => nomatch z), hkit, _, rfl, ?_⟩
    cases hd with
    | str z =>
      have az := ha z rfl
      have z20 := az.1
      refine iteF ?_
      refine ⟨_, rfl, z, rfl, fun D hD => ?_⟩
      refine lc_str (x := z) (keepF fun c => !decide (c ∈ y.cps.toList)) (by rw [sizeLine_eq]; omega) (fun c hc acc N hz hn hy' => ?_) ?_
      · refine ⟨rfl, _, rfl, _, rfl, c, y, rfl, rfl, _, rfl, ?_⟩
        rw [keepF_sgn] at hn hy'
        refine ite2 (fun hin => ?_) (fun hin => ?_)
        · rw [if_pos hin] at hy'
          exact ⟨_, rfl, acc, upd_same, hz, by rw [upd_upd]; exact hy' _ rfl⟩
        · rw [if_neg hin] at hn
          exact hn rfl
      have ef : (sgns z).filterMap (keepF fun c => !decide (c ∈ y.cps.toList)) = (z.cps.toList.filter fun c => !decide (c ∈ y.cps.toList)).map sgn :=
        (filterMap_sgn z.cps.toList _ (keepF fun c => !decide (c ∈ y.cps.toList)) fun c _ => keepF_sgn _ c)
      rw [ef]
      have s0 := same_new (o := .lst ((z.cps.toList.filter fun c => !decide (c ∈ y.cps.toList)).map sgn)) hD
      refine ⟨by show 0 ≤ sizeLine; decide, fun e0 he0 => ?_⟩
      have s1 := same_new (o := .lst []) he0
      have hfl : ∀ c ∈ z.cps.toList.filter (fun c => !decide (c ∈ y.cps.toList)), c ∈ z.cps.toList := fun c hc => (List.mem_filter.mp hc).1
      refine ⟨_, .list [], .lst (SqL.of (s1 _ _ upd_same)) (dp_sgns _), .lst (SqL.of upd_same) .nil, signs_shaped az _ hfl, rfl, ?_⟩
      have eN : PyData.eqv (.list ((z.cps.toList.filter fun c => !decide (c ∈ y.cps.toList)).map fun c => PyData.str ⟨#[c]⟩)) (.list []) = liesB z y := by
        rw [signs_data, show (PyData.list []) = .list (([] : List Str).map PyData.str) from rfl, eqv_texts]
        rw [Bool.eq_iff_iff, decide_eq_true_eq, List.map_eq_nil_iff, List.filter_eq_nil_iff, liesB_iff]
        exact ⟨fun h c hc => by simpa using h c hc, fun h c hc => by simpa using h c hc⟩
      rw [eN]
      refine ⟨_, rfl, ?_⟩
      cases hl : liesB z y with
      | false =>
        refine iteF ?_
        have := q _ (s0.trans s1)
        rw [show inSetD y (.str z) = (isSet z && liesB z y) from rfl, hl, Bool.and_false] at this
        exact this
      | true =>
        refine iteT ?_
        have lz := liesB_iff.mp hl
        have hcol : ∀ c ∈ z.cps.toList, c ∈ cols := fun c hc => (sub_isSet hy).subset (lz c hc)
        refine ⟨_, rfl, z, rfl, by omega, fun ys p nd hm so hp => ?_⟩
        have ey := sort_set hcol nd hm so
        have s2 := same_new (o := .lst (ys.map V.str)) hp
        refine ⟨_, rfl, z, rfl, by show z.cps.size ≤ sizeLine; rw [sizeLine_eq]; omega, fun L hL => ?_⟩
        have s3 := same_new (o := .lst (sgns z)) hL
        have esg : sgns z = (z.cps.toList.map sg).map V.str := by rw [List.map_map]; rfl
        have eD : ∀ l : List Nat, ((l.map sg).map V.str) = l.map sgn := fun l => by rw [List.map_map]; rfl
        have sub : ∀ c ∈ (setOf z).cps.toList, c ∈ z.cps.toList := fun c hc => ((setOf_mem _ _).mp hc).2
        refine ⟨_, _, .lst (SqL.of (s3 _ _ (by rw [upd_same, ey, eD]))) (dp_sgns _), .lst (SqL.of upd_same) (dp_sgns z.cps.toList), signs_shaped az _ sub, signs_shaped az _ fun _ h => h, ?_⟩
        have e : PyData.eqv (.list ((setOf z).cps.toList.map fun c => PyData.str ⟨#[c]⟩)) (.list (z.cps.toList.map fun c => PyData.str ⟨#[c]⟩)) = isSet z := by
          rw [signs_data, signs_data, eqv_texts]
          show decide _ = decide (z = setOf z)
          rw [Bool.eq_iff_iff, decide_eq_true_eq, decide_eq_true_eq]
          refine ⟨fun h => ?_, fun h => by rw [← h]⟩
          have : (setOf z).cps.toList = z.cps.toList := map_sg_inj h
          exact (str_ext this).symm
        rw [e]
        have := q _ (s0.trans (s1.trans (s2.trans s3)))
        rw [show inSetD y (.str z) = (isSet z && liesB z y) from rfl, hl, Bool.and_true] at this
        exact this
    | non => exact iteT (q H (Same.refl _))
    | bl b => exact iteT (q H (Same.refl _))
    | int i => exact iteT (q H (Same.refl _))
    | lst hs _ => exact iteT (q H (Same.refl _))
    | tup hs _ => exact iteT (q H (Same.refl _))
theorem inSet_all {d : PyData} : inSetD "abcdefgh" d = isSetD d := by
  cases d with
  | str z =>
    show (isSet z && liesB z "abcdefgh") = isSet z
    cases h : isSet z with
    | false => rfl
    | true => exact liesB_iff.mpr fun c hc => (sub_isSet h).subset hc
  | _ => rfl
end M

set_option Elab.async false
set_option linter.all false
set_option maxRecDepth 100000
set_option maxHeartbeats 4000000
namespace M
open PySem PySem.Spec PyProof.Rows L2
variable {P : Program} {w : World} {K : PySem.W.Frag} {mg : Str → Option Value} {base : Heap} {t : Adr}
/-! ### what two sets have, as the law tells it -/
theorem bothS_eq {x y : Str} (hx : isSet x = true) : (⟨(cols.filter fun c => decide (c ∈ x.cps.toList) && decide (c ∈ y.cps.toList)).toArray⟩ : Str) = bothS x y := by
  refine set_ext (isSet_sub List.filter_sublist) (set_of_sub (show (bothS x y).cps.toList.Sublist x.cps.toList from List.filter_sublist) hx) fun c => ?_
  rw [bothS_mem]
  show c ∈ cols.filter (fun c => decide (c ∈ x.cps.toList) && decide (c ∈ y.cps.toList)) ↔ _
  rw [List.mem_filter, Bool.and_eq_true, decide_eq_true_eq, decide_eq_true_eq]
  exact ⟨fun h => h.2, fun h => ⟨(sub_isSet hx).subset h.1, h⟩⟩
theorem eitherS_eq {x y : Str} : (⟨(cols.filter fun c => decide (c ∈ x.cps.toList) || decide (c ∈ y.cps.toList)).toArray⟩ : Str) = setOf (x ++ y) := by
  refine set_ext (isSet_sub List.filter_sublist) (isSet_setOf _) fun c => ?_
  rw [setOf_mem, app_cps, List.mem_append]
  show c ∈ cols.filter (fun c => decide (c ∈ x.cps.toList) || decide (c ∈ y.cps.toList)) ↔ _
  rw [List.mem_filter, Bool.or_eq_true, decide_eq_true_eq, decide_eq_true_eq]
theorem lack_nil {x y : Str} : decide (V.str (lackS x y) = V.str (Str.ofString "")) = liesB x y := by
  rw [Bool.eq_iff_iff, decide_eq_true_eq, liesB_iff]
  constructor
  · intro h c hc
    apply Classical.byContradiction
    intro hn
    have : c ∈ (lackS x y).cps.toList := lackS_mem.mpr ⟨hc, hn⟩
    rw [V.str.inj h] at this
    cases this
  · intro h
    refine congrArg V.str (str_ext ?_)
    show (x.cps.toList.filter fun c => !decide (c ∈ y.cps.toList)) = []
    rw [List.filter_eq_nil_iff]
    exact fun c hc => by simpa using h c hc
theorem pair_shows {a b c : Str} {d : Bool} (ha : isSet a = true) (hb : isSet b = true) (hc : isSet c = true) : Shows (.list [.str a, .str b, .str c, .bool d]) := by
  have fb : Fine (.bool d) 8 1 := by
    refine ⟨?_, ?_, rfl, by simp [PyData.depth], by simp [PyData.bulk]⟩
    · simp [PyData.leavesShort]
    · simp [PyData.canLay0]
  exact (FineAll.lst (.cons (fine_text (small_set ha) 1) (.cons (fine_text (small_set hb) 1) (.cons (fine_text (small_set hc) 1) (.cons fb (.nil 1)))))).shows (by decide) (by decide)
def sp_pair_right (K : PySem.W.Frag) : Sp := fun vs H Q _ => ∃ x y : Str, vs = [.str x, .str y] ∧ isSet x = true ∧ isSet y = true ∧ ∀ H', Same H H' → Q (.bl true) H'
theorem ok_pair_right (T : Txt K mg t) : FnOk P w K mg base (CXr P w) 6 t.f_pair_right t.d_pair_right p_pair_right (sp_pair_right K) := by
  refine T.F_pair_right.okN sc_pair_right (fun vs H Q E h => ?_) (fun cdv A outer s H vs Q E hr h => ?_)
  · obtain ⟨x, y, rfl, _⟩ := h
    rfl
  · obtain ⟨x, y, rfl, hx, hy, q⟩ := h
    refine ⟨_, pss_cons (ps_set (i := 2) sc_pair_right.nd rfl (Or.inl rfl) (pe_join pe_str (pe_lc (own := [("_law_column", 6)]) (g := (gName 6)) (by rfl) sc_pair_right.nd (pi_str pe_str) (blkOk_by (own := [("_law_column", 6)]) (N := N_pair_right) (sc := defScope s_pair_right) (by decide +kernel))
  (fun _ _ _ _ _ => pg_name (i := 6) sc_pair_right.nd rfl (Or.inl rfl)) (fun _ _ _ _ _ => pts_one (PW.pt (pw_and (pt_cmpR op_in_sign (pv 6) (pv 0) rfl) (pw_and1 (pt_cmpR op_in_sign (pv 6) (pv 1) rfl))))) (fun _ _ _ _ _ => (pv 6)))))
      (pss_cons (ps_set (i := 3) sc_pair_right.nd rfl (Or.inl rfl) (pe_join pe_str (pe_lc (own := [("_law_column", 6)]) (g := (gName 6)) (by rfl) sc_pair_right.nd (pi_str pe_str) (blkOk_by (own := [("_law_column", 6)]) (N := N_pair_right) (sc := defScope s_pair_right) (by decide +kernel))
  (fun _ _ _ _ _ => pg_name (i := 6) sc_pair_right.nd rfl (Or.inl rfl)) (fun _ _ _ _ _ => pts_one (PW.pt (pw_or (pt_cmpR op_in_sign (pv 6) (pv 0) rfl) (pw_or1 (pt_cmpR op_in_sign (pv 6) (pv 1) rfl))))) (fun _ _ _ _ _ => (pv 6)))))
      (pss_cons (ps_set (i := 4) sc_pair_right.nd rfl (Or.inl rfl) (pe_join pe_str (pe_lc (own := [("_law_column", 6)]) (g := (gName 6)) (by rfl) sc_pair_right.nd (pi_str (pv 0)) (blkOk_by (own := [("_law_column", 6)]) (N := N_pair_right) (sc := defScope s_pair_right) (by decide +kernel))
  (fun _ _ _ _ _ => pg_name (i := 6) sc_pair_right.nd rfl (Or.inl rfl)) (fun _ _ _ _ _ => pts_one (pt_cmpR op_notIn_sign (pv 6) (pv 1) rfl)) (fun _ _ _ _ _ => (pv 6)))))
      (pss_cons (ps_set (i := 5) sc_pair_right.nd rfl (Or.inl rfl) (pe_lst (pa_cons (pe_callX (ok_both T) (hr.mono (by decide)) (by rfl) T.m_both T.F_both.kp T.b_both .nil xok0 (pa_cons (pv 0) (pa_cons (pv 1) pa_nil))) (pa_cons (pe_callX (ok_either T) (hr.mono (by decide)) (by rfl) T.m_either T.F_either.kp T.b_either .nil xok0 (pa_cons (pv 0) (pa_cons (pv 1) pa_nil))) (pa_cons (pe_callX (ok_lacked T) (hr.mono (by decide)) (by rfl) T.m_lacked T.F_lacked.kp T.b_lacked .nil xok0 (pa_cons (pv 0) (pa_cons (pv 1) pa_nil))) (pa_cons (pe_callX (ok_lies_in T) (hr.mono (by decide)) (by rfl) T.m_lies_in T.F_lies_in.kp T.b_lies_in .nil xok0 (pa_cons (pv 0) (pa_cons (pv 1) pa_nil))) pa_nil))))))
      (pss_one (ps_ret (pe_callX (ok_same T) (hr.mono (by decide)) (by rfl) T.m_same T.F_same.kp T.b_same .nil xok0 (pa_cons (pv 5) (pa_cons (pe_lst (pa_cons (pv 2) (pa_cons (pv 3) (pa_cons (pv 4) (pa_cons (pe_cmpR op_eq (pv 4) pe_str (nomark _)) pa_nil))))) pa_nil)))))))), ?_⟩
    have x8 := isSet_len hx
    have y8 := isSet_len hy
    -- in both
    refine ⟨⟨_, rfl⟩, "abcdefgh", rfl, fun E1 hE1 => ?_⟩
    refine lc_str (x := "abcdefgh") (keepF fun c => decide (c ∈ x.cps.toList) && decide (c ∈ y.cps.toList)) (by decide +kernel) (fun c hc acc N hz hn hy' => ?_) ?_
    · refine ⟨rfl, _, rfl, _, rfl, c, x, rfl, rfl, _, rfl, ?_⟩
      rw [keepF_sgn] at hn hy'
      refine ite2 (fun hin => ?_) (fun hin => ?_)
      · refine ⟨_, rfl, _, rfl, c, y, rfl, rfl, _, rfl, ?_⟩
        refine ite2 (fun hin2 => ?_) (fun hin2 => ?_)
        · rw [if_pos (by rw [hin, Bool.true_and]; exact hin2)] at hy'
          exact ⟨_, rfl, acc, upd_same, hz, by rw [upd_upd]; exact hy' _ rfl⟩
        · rw [if_neg (by rw [hin, Bool.true_and]; exact hin2)] at hn
          exact hn rfl
      · rw [if_neg (by rw [Bool.eq_false_iff.mpr hin, Bool.false_and]; exact Bool.false_ne_true)] at hn
        exact iteF (hn rfl)
    have ef : ∀ p : Nat → Bool, (sgns "abcdefgh").filterMap (keepF p) = ((cols.filter p).map fun c => (⟨#[c]⟩ : Str)).map V.str := fun p => by
      rw [← map_str_sgn, ← filterMap_sgn cols _ (keepF p) fun c _ => keepF_sgn _ c]
      rfl
    have cl : ∀ p : Nat → Bool, (cols.filter p).length ≤ 8 := fun p => List.length_filter_le p cols
    rw [ef]
    refine ⟨_, E1, _, rfl, rfl, .inl (SqL.of upd_same), ?_, ?_⟩
    · show _ + _ * (⟨#[]⟩ : Str).length ≤ _
      rw [len_sgns]
      have := cl fun c => decide (c ∈ x.cps.toList) && decide (c ∈ y.cps.toList)
      omega
    have s1 := same_new (o := .lst (((cols.filter fun c => decide (c ∈ x.cps.toList) && decide (c ∈ y.cps.toList)).map fun c => (⟨#[c]⟩ : Str)).map V.str)) hE1
    have ew : Txt.join ("" : Str) ((cols.filter fun c => decide (c ∈ x.cps.toList) && decide (c ∈ y.cps.toList)).map fun c => (⟨#[c]⟩ : Str)) = bothS x y := (join_sgns _).trans (bothS_eq hx)
    rw [ew]
    generalize upd H E1 (.lst (((cols.filter fun c => decide (c ∈ x.cps.toList) && decide (c ∈ y.cps.toList)).map fun c => (⟨#[c]⟩ : Str)).map V.str)) = H1 at s1
    -- in either
    refine ⟨⟨_, rfl⟩, "abcdefgh", rfl, fun E2 hE2 => ?_⟩
    refine lc_str (x := "abcdefgh") (keepF fun c => decide (c ∈ x.cps.toList) || decide (c ∈ y.cps.toList)) (by decide +kernel) (fun c hc acc N hz hn hy' => ?_) ?_
    · refine ⟨rfl, _, rfl, _, rfl, c, x, rfl, rfl, _, rfl, ?_⟩
      rw [keepF_sgn] at hn hy'
      refine ite2 (fun hin => ?_) (fun hin => ?_)
      · rw [if_pos (by rw [hin, Bool.true_or])] at hy'
        exact iteT ⟨_, rfl, acc, upd_same, hz, by rw [upd_upd]; exact hy' _ rfl⟩
      · refine ⟨_, rfl, _, rfl, c, y, rfl, rfl, _, rfl, ?_⟩
        refine ite2 (fun hin2 => ?_) (fun hin2 => ?_)
        · rw [if_pos (by rw [hin2, Bool.or_true])] at hy'
          exact ⟨_, rfl, acc, upd_same, hz, by rw [upd_upd]; exact hy' _ rfl⟩
        · rw [if_neg (by rw [Bool.eq_false_iff.mpr hin, Bool.false_or]; exact hin2)] at hn
          exact hn rfl
    rw [ef]
    refine ⟨_, E2, _, rfl, rfl, .inl (SqL.of upd_same), ?_, ?_⟩
    · show _ + _ * (⟨#[]⟩ : Str).length ≤ _
      rw [len_sgns]
      have := cl fun c => decide (c ∈ x.cps.toList) || decide (c ∈ y.cps.toList)
      omega
    have s2 := same_new (o := .lst (((cols.filter fun c => decide (c ∈ x.cps.toList) || decide (c ∈ y.cps.toList)).map fun c => (⟨#[c]⟩ : Str)).map V.str)) hE2
    have ew2 : Txt.join ("" : Str) ((cols.filter fun c => decide (c ∈ x.cps.toList) || decide (c ∈ y.cps.toList)).map fun c => (⟨#[c]⟩ : Str)) = setOf (x ++ y) := (join_sgns _).trans eitherS_eq
    rw [ew2]
    generalize upd H1 E2 (.lst (((cols.filter fun c => decide (c ∈ x.cps.toList) || decide (c ∈ y.cps.toList)).map fun c => (⟨#[c]⟩ : Str)).map V.str)) = H2 at s2
    -- in the first alone
    refine ⟨⟨_, rfl⟩, _, rfl, x, rfl, fun E3 hE3 => ?_⟩
    refine lc_str (x := x) (keepF fun c => !decide (c ∈ y.cps.toList)) (by rw [sizeLine_eq]; rw [Array.length_toList] at x8; omega) (fun c hc acc N hz hn hy' => ?_) ?_
    · refine ⟨rfl, _, rfl, _, rfl, c, y, rfl, rfl, _, rfl, ?_⟩
      rw [keepF_sgn] at hn hy'
      refine ite2 (fun hin => ?_) (fun hin => ?_)
      · rw [if_pos hin] at hy'
        exact ⟨_, rfl, acc, upd_same, hz, by rw [upd_upd]; exact hy' _ rfl⟩
      · rw [if_neg hin] at hn
        exact hn rfl
    have ef3 : (sgns x).filterMap (keepF fun c => !decide (c ∈ y.cps.toList)) = ((x.cps.toList.filter fun c => !decide (c ∈ y.cps.toList)).map fun c => (⟨#[c]⟩ : Str)).map V.str := by
      rw [← map_str_sgn, ← filterMap_sgn x.cps.toList _ (keepF fun c => !decide (c ∈ y.cps.toList)) fun c _ => keepF_sgn _ c]
    rw [ef3]
    refine ⟨_, E3, _, rfl, rfl, .inl (SqL.of upd_same), ?_, ?_⟩
    · show _ + _ * (⟨#[]⟩ : Str).length ≤ _
      rw [len_sgns]
      have := List.length_filter_le (fun c => !decide (c ∈ y.cps.toList)) x.cps.toList
      omega
    have s3 := same_new (o := .lst (((x.cps.toList.filter fun c => !decide (c ∈ y.cps.toList)).map fun c => (⟨#[c]⟩ : Str)).map V.str)) hE3
    have ew3 : Txt.join ("" : Str) ((x.cps.toList.filter fun c => !decide (c ∈ y.cps.toList)).map fun c => (⟨#[c]⟩ : Str)) = lackS x y := join_sgns _
    rw [ew3]
    generalize upd H2 E3 (.lst (((x.cps.toList.filter fun c => !decide (c ∈ y.cps.toList)).map fun c => (⟨#[c]⟩ : Str)).map V.str)) = H3 at s3
    have s13 := s1.trans (s2.trans s3)
    -- what the program says
    have no : ∀ {v : Bool}, isSetD (.str x) = false ∨ isSetD (.str y) = false → v = v → False := fun h _ => by
      rcases h with h | h
      · rw [show isSetD (.str x) = isSet x from rfl, hx] at h; cases h
      · rw [show isSetD (.str y) = isSet y from rfl, hy] at h; cases h
    refine ⟨_, rfl, _, rfl, .str x, .str y, .str x, .str y, rfl, .str x, .str y, fun x1 y1 e1 e2 _ _ H4 s4 => ?_, fun h => (no (v := true) h rfl).elim⟩
    cases e1
    cases e2
    refine ⟨_, rfl, _, rfl, .str x, .str y, .str x, .str y, rfl, .str x, .str y, fun x1 y1 e1 e2 _ _ H5 s5 => ?_, fun h => (no (v := true) h rfl).elim⟩
    cases e1
    cases e2
    refine ⟨_, rfl, _, rfl, .str x, .str y, .str x, .str y, rfl, .str x, .str y, fun x1 y1 e1 e2 _ _ H6 s6 => ?_, fun h => (no (v := true) h rfl).elim⟩
    cases e1
    cases e2
    refine ⟨_, rfl, _, rfl, .str x, .str y, .str x, .str y, rfl, .str x, .str y, fun x1 y1 e1 e2 _ _ H7 s7 => ?_, fun h => (no (v := true) h rfl).elim⟩
    cases e1
    cases e2
    refine ⟨by show 4 ≤ sizeLine; decide, fun L hL => ?_⟩
    have s8 := same_new (o := .lst [.str (bothS x y), .str (setOf (x ++ y)), .str (lackS x y), .bl (liesB x y)]) hL
    refine ⟨_, rfl, _, rfl, _, rfl, _, rfl, _, rfl, rfl, ?_⟩
    rw [lack_nil]
    refine ⟨by show 4 ≤ sizeLine; decide, fun L2 hL2 => ?_⟩
    have s9 := same_new (o := .lst [.str (bothS x y), .str (setOf (x ++ y)), .str (lackS x y), .bl (liesB x y)]) hL2
    have sh := pair_shows (d := liesB x y) (set_of_sub (show (bothS x y).cps.toList.Sublist x.cps.toList from List.filter_sublist) hx) (isSet_setOf (x ++ y)) (set_of_sub (show (lackS x y).cps.toList.Sublist x.cps.toList from List.filter_sublist) hx)
    refine ⟨_, _, _, _, rfl, .lst (SqL.of (s9 _ _ upd_same)) (.cons (.str _) (.cons (.str _) (.cons (.str _) (.cons (.bl _) .nil)))), .lst (SqL.of upd_same) (.cons (.str _) (.cons (.str _) (.cons (.str _) (.cons (.bl _) .nil)))), sh, sh, ?_⟩
    rw [decide_eq_true rfl]
    exact q _ (s13.trans (s4.trans (s5.trans (s6.trans (s7.trans (s8.trans s9))))))
/-! ### what is refused -/
def refQ : Str := "_law_refused_right.<locals>.<lambda>"
/-- all but what is at L -/
def SameX (L : Addr) (F G : Hp) : Prop := ∀ c o, c ≠ L → F c = some o → G c = some o
theorem lam_x {cs : List (Str × Addr)} {H H' : Hp} {L f : Addr} {q : Str} {params : Arguments} {body : Expr} {sc : Scope} (h : LamAt cs H f q params body sc) (hL : H L = none ∨ ∃ xs, H L = some (.lst xs)) (s : SameX L H H') : LamAt cs H' f q params body sc := by
  obtain ⟨c', pm, ctv, cl, e1, e2, r⟩ := h
  have ne : ∀ {c : Addr} {o : HO}, H c = some o → (∀ xs, o ≠ .lst xs) → c ≠ L := fun {c o} e hn z => by
    rw [z] at e
    rcases hL with hL | ⟨xs, hL⟩
    · rw [hL] at e; cases e
    · rw [hL] at e; cases e; exact hn _ rfl
  exact ⟨c', pm, ctv, cl, s _ _ (ne e1 fun xs z => by cases z) e1, s _ _ (ne e2 fun xs z => by cases z) e2, r⟩
/-- a lambda that hands on no set is refused so, wherever it is called -/
def Bad (P : Program) (w : World) (K : PySem.W.Frag) (mg : Str → Option Value) (t : Adr) (cs : List (Str × Addr)) (v1 v2 : V) (L : Addr) (H : Hp) (f : Addr) : Prop :=
  ∀ (base' : Heap) (σ : L2.St), σ[0]? = some (some v1) → σ[1]? = some (some v2) → CellsAt (defScope s_refused_right) cs N_refused_right σ base' → ∀ F, SameX L H F →
    ∃ spL : Hp → VK → XK → Prop, Callable P w K mg base' 20 f spL ∧ ∀ Q E, (∀ F', Same F F' → E (.ref t.c_NoSet) none F') → spL F Q E
theorem Bad.same {cs : List (Str × Addr)} {v1 v2 : V} {L : Addr} {H H' : Hp} {f : Addr} (b : Bad P w K mg t cs v1 v2 L H f) (s : SameX L H H') : Bad P w K mg t cs v1 v2 L H' f := fun base' σ h1 h2 hc F sF => b base' σ h1 h2 hc F fun c o n e => sF c o n (s c o n e)
theorem toX {L : Addr} {F G : Hp} (s : Same F G) : SameX L F G := fun c o _ e => s c o e
theorem updX {L : Addr} {F : Hp} {o : HO} : SameX L F (upd F L o) := fun c u n e => by rw [upd_ne n]; exact e
theorem bad_put {cs : List (Str × Addr)} {v1 v2 : V} {F : Hp} {L f : Addr} {fs : List Addr} {ys : List V} (B : ∀ g ∈ fs, Bad P w K mg t cs v1 v2 L F g) (b : Bad P w K mg t cs v1 v2 L F f) : ∀ g ∈ fs ++ [f], Bad P w K mg t cs v1 v2 L (upd F L (.lst ys)) g := fun g hg => by
  rcases List.mem_append.mp hg with h | h
  · exact (B g h).same updX
  · rw [List.mem_singleton.mp h]
    exact b.same updX
def sp_refused_right (K : PySem.W.Frag) (Pt : Addr) : Sp := fun vs H Q _ => ∃ (v : V) (d : PyData) (y : Str), vs = [v, .str y] ∧ BentT K H v d ∧ isSetD d = false ∧ isSet y = true ∧ H Pt = some (.tbl #[.str refQ 0]) ∧ ∀ H', Same H H' → Q (.bl true) H'
theorem ok_refused_right (T : Txt K mg t) : FnOk P w K mg base (CXr P w) 24 t.f_refused_right t.d_refused_right p_refused_right (sp_refused_right K t.kp_refused_right) := by
  refine T.F_refused_right.okL T.kc_refused_right sc_refused_right (fun vs H Q E h => ?_) (fun A outer s H vs Q E hr h => ?_)
  · obtain ⟨v, d, y, rfl, _⟩ := h
    rfl
  · obtain ⟨v, d, y, rfl, ⟨hd, hsh, hasc⟩, hbad, hy, hT, q⟩ := h
    refine ⟨_, pss_cons (ps_set (i := 2) sc_refused_right.nd rfl (Or.inl rfl) (pe_lst (pa_cons (pe_lam rfl T.kh_refused_right rfl rfl rfl) pa_nil)))
      (pss_cons (ps_expr (pe_bm PySem.F.plainAttrs_list PySem.F.slot_list_append PySem.F.type_list_append mt_append (pv 2) (pa_cons (pe_lam rfl T.kh_refused_right rfl rfl rfl) pa_nil)))
      (pss_cons (ps_expr (pe_bm PySem.F.plainAttrs_list PySem.F.slot_list_append PySem.F.type_list_append mt_append (pv 2) (pa_cons (pe_lam rfl T.kh_refused_right rfl rfl rfl) pa_nil)))
      (pss_cons (ps_expr (pe_bm PySem.F.plainAttrs_list PySem.F.slot_list_append PySem.F.type_list_append mt_append (pv 2) (pa_cons (pe_lam rfl T.kh_refused_right rfl rfl rfl) pa_nil)))
      (pss_cons (ps_expr (pe_bm PySem.F.plainAttrs_list PySem.F.slot_list_append PySem.F.type_list_append mt_append (pv 2) (pa_cons (pe_lam rfl T.kh_refused_right rfl rfl rfl) pa_nil)))
      (pss_cons (ps_expr (pe_bm PySem.F.plainAttrs_list PySem.F.slot_list_append PySem.F.type_list_append mt_append (pv 2) (pa_cons (pe_lam rfl T.kh_refused_right rfl rfl rfl) pa_nil)))
      (pss_cons (ps_expr (pe_bm PySem.F.plainAttrs_list PySem.F.slot_list_append PySem.F.type_list_append mt_append (pv 2) (pa_cons (pe_lam rfl T.kh_refused_right rfl rfl rfl) pa_nil)))
      (pss_cons (ps_expr (pe_bm PySem.F.plainAttrs_list PySem.F.slot_list_append PySem.F.type_list_append mt_append (pv 2) (pa_cons (pe_lam rfl T.kh_refused_right rfl rfl rfl) pa_nil)))
      (pss_cons (ps_expr (pe_bm PySem.F.plainAttrs_list PySem.F.slot_list_append PySem.F.type_list_append mt_append (pv 2) (pa_cons (pe_lam rfl T.kh_refused_right rfl rfl rfl) pa_nil)))
      (pss_cons (ps_expr (pe_bm PySem.F.plainAttrs_list PySem.F.slot_list_append PySem.F.type_list_append mt_append (pv 2) (pa_cons (pe_lam rfl T.kh_refused_right rfl rfl rfl) pa_nil)))
      (pss_cons (ps_expr (pe_bm PySem.F.plainAttrs_list PySem.F.slot_list_append PySem.F.type_list_append mt_append (pv 2) (pa_cons (pe_lam rfl T.kh_refused_right rfl rfl rfl) pa_nil)))
      (pss_cons (ps_expr (pe_bm PySem.F.plainAttrs_list PySem.F.slot_list_append PySem.F.type_list_append mt_append (pv 2) (pa_cons (pe_lam rfl T.kh_refused_right rfl rfl rfl) pa_nil)))
      (pss_cons (ps_set (i := 3) sc_refused_right.nd rfl (Or.inl rfl) (pe_callB (call_repr hr.gd hr.units) (by rfl) T.n_repr (by decide +kernel) (pa_cons (pv 0) pa_nil)))
      (pss_one (ps_ret (pe_and (pe_cmpR (op_eqD hr.units) (pe_lcO (own := [("_law_call", 4)]) (g := (gName 4)) (by rfl) sc_refused_right.nd (pi_list (pv 2)) (blkOk_by (own := [("_law_call", 4)]) (N := N_refused_right) (sc := defScope s_refused_right) (by decide +kernel))
  (fun _ _ _ _ _ => pg_name (i := 4) sc_refused_right.nd rfl (Or.inl rfl)) (fun _ _ _ _ _ => pts_nil) (fun _ _ _ _ _ _ _ I0 hf0 => (pe_callO I0 hf0 (fun _ => ok_said (k := 20) T) (fun _ => rfl) (hr.mono (by decide)) (by rfl) T.m_said T.F_said.kp T.b_said .nil xok0 (pa_cons (pv 4) pa_nil)))) (pe_op op_rep (pe_lst (pa_cons pe_str pa_nil)) pe_int) (nomark _)) (pe_one (pe_cmpR op_eq (pe_callB (call_repr hr.gd hr.units) (by rfl) T.n_repr (by decide +kernel) (pa_cons (pv 0) pa_nil)) (pv 3) (nomark _)))))))))))))))))), ?_⟩
    refine ⟨⟨_, hT⟩, fun f1 F1 u1 n1 l1 => ?_⟩
    have u1 : Same H F1 := u1
    refine ⟨by show 1 ≤ sizeLine; decide, fun L hL => ?_⟩
    have nL : H L = none := none_backZ u1 hL
    have b1 : Bad P w K mg t _ v (.str y) L F1 f1 := fun base' σ h1 h2 hc F sF0 => by
      have sF : Same H F := fun c o e => sF0 c o (ne_of_none e nL) (u1 c o e)
      refine ⟨fun F Q E => LamAt _ F f1 _ _ _ _ ∧ ∃ v1 v2 d1 d2, [v, .str y] = [v1, v2] ∧ Dp K F v1 d1 ∧ Dp K F v2 d2 ∧ (isSetD d1 = false ∨ isSetD d2 = false) ∧ ∀ F', Same F F' → E (.ref t.c_NoSet) none F', ?_, fun Q E hE => ⟨lam_x l1 (.inl hL) sF0, _, _, d, .str y, rfl, (dp_same sF _ _ hd), (.str y), .inl hbad, hE⟩⟩
      refine lam_callable (k := 19) (NL := ["_law_bad", "_law_good"]) (vL := [v, .str y]) ⟨rfl, rfl, rfl, by decide⟩ (fun _ _ _ _ => rfl) rfl (fun i x u g1 g2 => ?_) hc (fun H Q E h => h.1) (fun cd cells A outer s H Q E hr h =>
        ⟨_, pe_callX (ok_both T) (hr.mono (by decide)) (by rfl) T.m_both T.F_both.kp T.b_both .nil xok_fnL (pa_cons (pv 0) (pa_cons (pv 1) pa_nil)), ?_⟩)
      · match i, g1, g2 with
        | 0, g1, g2 => cases g1; cases g2; exact ⟨rfl, rfl, 0, rfl, h1⟩
        | 1, g1, g2 => cases g1; cases g2; exact ⟨rfl, rfl, 1, rfl, h2⟩
        | _ + 2, g1, _ => cases g1
      · obtain ⟨_, v1, v2, d1, d2, e, p1, p2, hb, hE⟩ := h
        cases e
        refine ⟨_, rfl, _, rfl, _, _, d1, d2, rfl, p1, p2, fun x1 y1 e1 e2 x2 y2 => ?_, fun _ => hE⟩
        rw [e1, e2] at hb
        rcases hb with hb | hb
        · rw [show isSetD (.str x1) = isSet x1 from rfl, x2] at hb; cases hb
        · rw [show isSetD (.str y1) = isSet y1 from rfl, y2] at hb; cases hb
    have w1 := same_new (o := .lst [.ref f1]) hL
    have t1 : Same H (upd F1 L (.lst [.ref f1])) := u1.trans w1
    have hL1 : (upd F1 L (.lst [.ref f1])) L = some (.lst (([f1] : List Addr).map V.ref)) := upd_same
    have B1 : ∀ f ∈ ([f1] : List Addr), Bad P w K mg t _ v (.str y) L (upd F1 L (.lst [.ref f1])) f := fun f hf => by
      rw [List.mem_singleton.mp hf]
      exact b1.same (toX w1)
    generalize upd F1 L (.lst [.ref f1]) = H1 at t1 hL1 B1
    clear w1 b1 l1 n1 u1 hL
    refine ⟨_, rfl, .inl ⟨rfl, _, SqL.of hL1⟩, ⟨_, t1 _ _ hT⟩, fun f2 F2 u2 n2 l2 => ?_⟩
    have u2 : Same H1 F2 := u2
    have hK2 : F2 L = some (.lst (([f1] : List Addr).map V.ref)) := u2 _ _ hL1
    have b2 : Bad P w K mg t _ v (.str y) L F2 f2 := fun base' σ h1 h2 hc F sF0 => by
      have sF : Same H F := fun c o e => sF0 c o (ne_of_none e nL) ((t1.trans u2) c o e)
      refine ⟨fun F Q E => LamAt _ F f2 _ _ _ _ ∧ ∃ v1 v2 d1 d2, [.str y, v] = [v1, v2] ∧ Dp K F v1 d1 ∧ Dp K F v2 d2 ∧ (isSetD d1 = false ∨ isSetD d2 = false) ∧ ∀ F', Same F F' → E (.ref t.c_NoSet) none F', ?_, fun Q E hE => ⟨lam_x l2 (.inr ⟨_, hK2⟩) sF0, _, _, .str y, d, rfl, (.str y), (dp_same sF _ _ hd), .inr hbad, hE⟩⟩
      refine lam_callable (k := 19) (NL := ["_law_bad", "_law_good"]) (vL := [v, .str y]) ⟨rfl, rfl, rfl, by decide⟩ (fun _ _ _ _ => rfl) rfl (fun i x u g1 g2 => ?_) hc (fun H Q E h => h.1) (fun cd cells A outer s H Q E hr h =>
        ⟨_, pe_callX (ok_both T) (hr.mono (by decide)) (by rfl) T.m_both T.F_both.kp T.b_both .nil xok_fnL (pa_cons (pv 1) (pa_cons (pv 0) pa_nil)), ?_⟩)
      · match i, g1, g2 with
        | 0, g1, g2 => cases g1; cases g2; exact ⟨rfl, rfl, 0, rfl, h1⟩
        | 1, g1, g2 => cases g1; cases g2; exact ⟨rfl, rfl, 1, rfl, h2⟩
        | _ + 2, g1, _ => cases g1
      · obtain ⟨_, v1, v2, d1, d2, e, p1, p2, hb, hE⟩ := h
        cases e
        refine ⟨_, rfl, _, rfl, _, _, d1, d2, rfl, p1, p2, fun x1 y1 e1 e2 x2 y2 => ?_, fun _ => hE⟩
        rw [e1, e2] at hb
        rcases hb with hb | hb
        · rw [show isSetD (.str x1) = isSet x1 from rfl, x2] at hb; cases hb
        · rw [show isSetD (.str y1) = isSet y1 from rfl, y2] at hb; cases hb
    refine ⟨L, _, _, rfl, rfl, hK2, by show 1 + 1 ≤ sizeLine; decide, ?_⟩
    have hL2 : (upd F2 L (.lst (([f1] : List Addr).map V.ref ++ [.ref f2]))) L = some (.lst (([f1, f2] : List Addr).map V.ref)) := upd_same
    have t2 : Same H (upd F2 L (.lst (([f1] : List Addr).map V.ref ++ [.ref f2]))) := fun c o hc => by
      rw [upd_ne (ne_of_none hc nL)]
      exact u2 c o (t1 c o hc)
    have B2 : ∀ f ∈ ([f1, f2] : List Addr), Bad P w K mg t _ v (.str y) L (upd F2 L (.lst (([f1] : List Addr).map V.ref ++ [.ref f2]))) f := bad_put (fun f hf => (B1 f hf).same (toX u2)) b2
    generalize upd F2 L (.lst (([f1] : List Addr).map V.ref ++ [.ref f2])) = H2 at t2 hL2 B2
    clear b2 l2 n2 hK2 u2 B1 hL1
    refine ⟨_, rfl, .inl ⟨rfl, _, SqL.of hL2⟩, ⟨_, t2 _ _ hT⟩, fun f3 F3 u3 n3 l3 => ?_⟩
    have u3 : Same H2 F3 := u3
    have hK3 : F3 L = some (.lst (([f1, f2] : List Addr).map V.ref)) := u3 _ _ hL2
    have b3 : Bad P w K mg t _ v (.str y) L F3 f3 := fun base' σ h1 h2 hc F sF0 => by
      have sF : Same H F := fun c o e => sF0 c o (ne_of_none e nL) ((t2.trans u3) c o e)
      refine ⟨fun F Q E => LamAt _ F f3 _ _ _ _ ∧ ∃ v1 v2 d1 d2, [v, .str y] = [v1, v2] ∧ Dp K F v1 d1 ∧ Dp K F v2 d2 ∧ (isSetD d1 = false ∨ isSetD d2 = false) ∧ ∀ F', Same F F' → E (.ref t.c_NoSet) none F', ?_, fun Q E hE => ⟨lam_x l3 (.inr ⟨_, hK3⟩) sF0, _, _, d, .str y, rfl, (dp_same sF _ _ hd), (.str y), .inl hbad, hE⟩⟩
      refine lam_callable (k := 19) (NL := ["_law_bad", "_law_good"]) (vL := [v, .str y]) ⟨rfl, rfl, rfl, by decide⟩ (fun _ _ _ _ => rfl) rfl (fun i x u g1 g2 => ?_) hc (fun H Q E h => h.1) (fun cd cells A outer s H Q E hr h =>
        ⟨_, pe_callX (ok_either T) (hr.mono (by decide)) (by rfl) T.m_either T.F_either.kp T.b_either .nil xok_fnL (pa_cons (pv 0) (pa_cons (pv 1) pa_nil)), ?_⟩)
      · match i, g1, g2 with
        | 0, g1, g2 => cases g1; cases g2; exact ⟨rfl, rfl, 0, rfl, h1⟩
        | 1, g1, g2 => cases g1; cases g2; exact ⟨rfl, rfl, 1, rfl, h2⟩
        | _ + 2, g1, _ => cases g1
      · obtain ⟨_, v1, v2, d1, d2, e, p1, p2, hb, hE⟩ := h
        cases e
        refine ⟨_, rfl, _, rfl, _, _, d1, d2, rfl, p1, p2, fun x1 y1 e1 e2 x2 y2 => ?_, fun _ => hE⟩
        rw [e1, e2] at hb
        rcases hb with hb | hb
        · rw [show isSetD (.str x1) = isSet x1 from rfl, x2] at hb; cases hb
        · rw [show isSetD (.str y1) = isSet y1 from rfl, y2] at hb; cases hb
    refine ⟨L, _, _, rfl, rfl, hK3, by show 2 + 1 ≤ sizeLine; decide, ?_⟩
    have hL3 : (upd F3 L (.lst (([f1, f2] : List Addr).map V.ref ++ [.ref f3]))) L = some (.lst (([f1, f2, f3] : List Addr).map V.ref)) := upd_same
    have t3 : Same H (upd F3 L (.lst (([f1, f2] : List Addr).map V.ref ++ [.ref f3]))) := fun c o hc => by
      rw [upd_ne (ne_of_none hc nL)]
      exact u3 c o (t2 c o hc)
    have B3 : ∀ f ∈ ([f1, f2, f3] : List Addr), Bad P w K mg t _ v (.str y) L (upd F3 L (.lst (([f1, f2] : List Addr).map V.ref ++ [.ref f3]))) f := bad_put (fun f hf => (B2 f hf).same (toX u3)) b3
    generalize upd F3 L (.lst (([f1, f2] : List Addr).map V.ref ++ [.ref f3])) = H3 at t3 hL3 B3
    clear b3 l3 n3 hK3 u3 B2 hL2
    refine ⟨_, rfl, .inl ⟨rfl, _, SqL.of hL3⟩, ⟨_, t3 _ _ hT⟩, fun f4 F4 u4 n4 l4 => ?_⟩
    have u4 : Same H3 F4 := u4
    have hK4 : F4 L = some (.lst (([f1, f2, f3] : List Addr).map V.ref)) := u4 _ _ hL3
    have b4 : Bad P w K mg t _ v (.str y) L F4 f4 := fun base' σ h1 h2 hc F sF0 => by
      have sF : Same H F := fun c o e => sF0 c o (ne_of_none e nL) ((t3.trans u4) c o e)
      refine ⟨fun F Q E => LamAt _ F f4 _ _ _ _ ∧ ∃ v1 v2 d1 d2, [.str y, v] = [v1, v2] ∧ Dp K F v1 d1 ∧ Dp K F v2 d2 ∧ (isSetD d1 = false ∨ isSetD d2 = false) ∧ ∀ F', Same F F' → E (.ref t.c_NoSet) none F', ?_, fun Q E hE => ⟨lam_x l4 (.inr ⟨_, hK4⟩) sF0, _, _, .str y, d, rfl, (.str y), (dp_same sF _ _ hd), .inr hbad, hE⟩⟩
      refine lam_callable (k := 19) (NL := ["_law_bad", "_law_good"]) (vL := [v, .str y]) ⟨rfl, rfl, rfl, by decide⟩ (fun _ _ _ _ => rfl) rfl (fun i x u g1 g2 => ?_) hc (fun H Q E h => h.1) (fun cd cells A outer s H Q E hr h =>
        ⟨_, pe_callX (ok_either T) (hr.mono (by decide)) (by rfl) T.m_either T.F_either.kp T.b_either .nil xok_fnL (pa_cons (pv 1) (pa_cons (pv 0) pa_nil)), ?_⟩)
      · match i, g1, g2 with
        | 0, g1, g2 => cases g1; cases g2; exact ⟨rfl, rfl, 0, rfl, h1⟩
        | 1, g1, g2 => cases g1; cases g2; exact ⟨rfl, rfl, 1, rfl, h2⟩
        | _ + 2, g1, _ => cases g1
      · obtain ⟨_, v1, v2, d1, d2, e, p1, p2, hb, hE⟩ := h
        cases e
        refine ⟨_, rfl, _, rfl, _, _, d1, d2, rfl, p1, p2, fun x1 y1 e1 e2 x2 y2 => ?_, fun _ => hE⟩
        rw [e1, e2] at hb
        rcases hb with hb | hb
        · rw [show isSetD (.str x1) = isSet x1 from rfl, x2] at hb; cases hb
        · rw [show isSetD (.str y1) = isSet y1 from rfl, y2] at hb; cases hb
    refine ⟨L, _, _, rfl, rfl, hK4, by show 3 + 1 ≤ sizeLine; decide, ?_⟩
    have hL4 : (upd F4 L (.lst (([f1, f2, f3] : List Addr).map V.ref ++ [.ref f4]))) L = some (.lst (([f1, f2, f3, f4] : List Addr).map V.ref)) := upd_same
    have t4 : Same H (upd F4 L (.lst (([f1, f2, f3] : List Addr).map V.ref ++ [.ref f4]))) := fun c o hc => by
      rw [upd_ne (ne_of_none hc nL)]
      exact u4 c o (t3 c o hc)
    have B4 : ∀ f ∈ ([f1, f2, f3, f4] : List Addr), Bad P w K mg t _ v (.str y) L (upd F4 L (.lst (([f1, f2, f3] : List Addr).map V.ref ++ [.ref f4]))) f := bad_put (fun f hf => (B3 f hf).same (toX u4)) b4
    generalize upd F4 L (.lst (([f1, f2, f3] : List Addr).map V.ref ++ [.ref f4])) = H4 at t4 hL4 B4
    clear b4 l4 n4 hK4 u4 B3 hL3
    refine ⟨_, rfl, .inl ⟨rfl, _, SqL.of hL4⟩, ⟨_, t4 _ _ hT⟩, fun f5 F5 u5 n5 l5 => ?_⟩
    have u5 : Same H4 F5 := u5
    have hK5 : F5 L = some (.lst (([f1, f2, f3, f4] : List Addr).map V.ref)) := u5 _ _ hL4
    have b5 : Bad P w K mg t _ v (.str y) L F5 f5 := fun base' σ h1 h2 hc F sF0 => by
      have sF : Same H F := fun c o e => sF0 c o (ne_of_none e nL) ((t4.trans u5) c o e)
      refine ⟨fun F Q E => LamAt _ F f5 _ _ _ _ ∧ ∃ v1 v2 d1 d2, [v, v] = [v1, v2] ∧ Dp K F v1 d1 ∧ Dp K F v2 d2 ∧ (isSetD d1 = false ∨ isSetD d2 = false) ∧ ∀ F', Same F F' → E (.ref t.c_NoSet) none F', ?_, fun Q E hE => ⟨lam_x l5 (.inr ⟨_, hK5⟩) sF0, _, _, d, d, rfl, (dp_same sF _ _ hd), (dp_same sF _ _ hd), .inl hbad, hE⟩⟩
      refine lam_callable (k := 19) (NL := ["_law_bad"]) (vL := [v]) ⟨rfl, rfl, rfl, by decide⟩ (fun _ _ _ _ => rfl) rfl (fun i x u g1 g2 => ?_) hc (fun H Q E h => h.1) (fun cd cells A outer s H Q E hr h =>
        ⟨_, pe_callX (ok_lacked T) (hr.mono (by decide)) (by rfl) T.m_lacked T.F_lacked.kp T.b_lacked .nil xok_fnL (pa_cons (pv 0) (pa_cons (pv 0) pa_nil)), ?_⟩)
      · match i, g1, g2 with
        | 0, g1, g2 => cases g1; cases g2; exact ⟨rfl, rfl, 0, rfl, h1⟩
        | _ + 1, g1, _ => cases g1
      · obtain ⟨_, v1, v2, d1, d2, e, p1, p2, hb, hE⟩ := h
        cases e
        refine ⟨_, rfl, _, rfl, _, _, d1, d2, rfl, p1, p2, fun x1 y1 e1 e2 x2 y2 => ?_, fun _ => hE⟩
        rw [e1, e2] at hb
        rcases hb with hb | hb
        · rw [show isSetD (.str x1) = isSet x1 from rfl, x2] at hb; cases hb
        · rw [show isSetD (.str y1) = isSet y1 from rfl, y2] at hb; cases hb
    refine ⟨L, _, _, rfl, rfl, hK5, by show 4 + 1 ≤ sizeLine; decide, ?_⟩
    have hL5 : (upd F5 L (.lst (([f1, f2, f3, f4] : List Addr).map V.ref ++ [.ref f5]))) L = some (.lst (([f1, f2, f3, f4, f5] : List Addr).map V.ref)) := upd_same
    have t5 : Same H (upd F5 L (.lst (([f1, f2, f3, f4] : List Addr).map V.ref ++ [.ref f5]))) := fun c o hc => by
      rw [upd_ne (ne_of_none hc nL)]
      exact u5 c o (t4 c o hc)
    have B5 : ∀ f ∈ ([f1, f2, f3, f4, f5] : List Addr), Bad P w K mg t _ v (.str y) L (upd F5 L (.lst (([f1, f2, f3, f4] : List Addr).map V.ref ++ [.ref f5]))) f := bad_put (fun f hf => (B4 f hf).same (toX u5)) b5
    generalize upd F5 L (.lst (([f1, f2, f3, f4] : List Addr).map V.ref ++ [.ref f5])) = H5 at t5 hL5 B5
    clear b5 l5 n5 hK5 u5 B4 hL4
    refine ⟨_, rfl, .inl ⟨rfl, _, SqL.of hL5⟩, ⟨_, t5 _ _ hT⟩, fun f6 F6 u6 n6 l6 => ?_⟩
    have u6 : Same H5 F6 := u6
    have hK6 : F6 L = some (.lst (([f1, f2, f3, f4, f5] : List Addr).map V.ref)) := u6 _ _ hL5
    have b6 : Bad P w K mg t _ v (.str y) L F6 f6 := fun base' σ h1 h2 hc F sF0 => by
      have sF : Same H F := fun c o e => sF0 c o (ne_of_none e nL) ((t5.trans u6) c o e)
      refine ⟨fun F Q E => LamAt _ F f6 _ _ _ _ ∧ ∃ v1 v2 d1 d2, [.str y, v] = [v1, v2] ∧ Dp K F v1 d1 ∧ Dp K F v2 d2 ∧ (isSetD d1 = false ∨ isSetD d2 = false) ∧ ∀ F', Same F F' → E (.ref t.c_NoSet) none F', ?_, fun Q E hE => ⟨lam_x l6 (.inr ⟨_, hK6⟩) sF0, _, _, .str y, d, rfl, (.str y), (dp_same sF _ _ hd), .inr hbad, hE⟩⟩
      refine lam_callable (k := 19) (NL := ["_law_bad", "_law_good"]) (vL := [v, .str y]) ⟨rfl, rfl, rfl, by decide⟩ (fun _ _ _ _ => rfl) rfl (fun i x u g1 g2 => ?_) hc (fun H Q E h => h.1) (fun cd cells A outer s H Q E hr h =>
        ⟨_, pe_callX (ok_lacked T) (hr.mono (by decide)) (by rfl) T.m_lacked T.F_lacked.kp T.b_lacked .nil xok_fnL (pa_cons (pv 1) (pa_cons (pv 0) pa_nil)), ?_⟩)
      · match i, g1, g2 with
        | 0, g1, g2 => cases g1; cases g2; exact ⟨rfl, rfl, 0, rfl, h1⟩
        | 1, g1, g2 => cases g1; cases g2; exact ⟨rfl, rfl, 1, rfl, h2⟩
        | _ + 2, g1, _ => cases g1
      · obtain ⟨_, v1, v2, d1, d2, e, p1, p2, hb, hE⟩ := h
        cases e
        refine ⟨_, rfl, _, rfl, _, _, d1, d2, rfl, p1, p2, fun x1 y1 e1 e2 x2 y2 => ?_, fun _ => hE⟩
        rw [e1, e2] at hb
        rcases hb with hb | hb
        · rw [show isSetD (.str x1) = isSet x1 from rfl, x2] at hb; cases hb
        · rw [show isSetD (.str y1) = isSet y1 from rfl, y2] at hb; cases hb
    refine ⟨L, _, _, rfl, rfl, hK6, by show 5 + 1 ≤ sizeLine; decide, ?_⟩
    have hL6 : (upd F6 L (.lst (([f1, f2, f3, f4, f5] : List Addr).map V.ref ++ [.ref f6]))) L = some (.lst (([f1, f2, f3, f4, f5, f6] : List Addr).map V.ref)) := upd_same
    have t6 : Same H (upd F6 L (.lst (([f1, f2, f3, f4, f5] : List Addr).map V.ref ++ [.ref f6]))) := fun c o hc => by
      rw [upd_ne (ne_of_none hc nL)]
      exact u6 c o (t5 c o hc)
    have B6 : ∀ f ∈ ([f1, f2, f3, f4, f5, f6] : List Addr), Bad P w K mg t _ v (.str y) L (upd F6 L (.lst (([f1, f2, f3, f4, f5] : List Addr).map V.ref ++ [.ref f6]))) f := bad_put (fun f hf => (B5 f hf).same (toX u6)) b6
    generalize upd F6 L (.lst (([f1, f2, f3, f4, f5] : List Addr).map V.ref ++ [.ref f6])) = H6 at t6 hL6 B6
    clear b6 l6 n6 hK6 u6 B5 hL5
    refine ⟨_, rfl, .inl ⟨rfl, _, SqL.of hL6⟩, ⟨_, t6 _ _ hT⟩, fun f7 F7 u7 n7 l7 => ?_⟩
    have u7 : Same H6 F7 := u7
    have hK7 : F7 L = some (.lst (([f1, f2, f3, f4, f5, f6] : List Addr).map V.ref)) := u7 _ _ hL6
    have b7 : Bad P w K mg t _ v (.str y) L F7 f7 := fun base' σ h1 h2 hc F sF0 => by
      have sF : Same H F := fun c o e => sF0 c o (ne_of_none e nL) ((t6.trans u7) c o e)
      refine ⟨fun F Q E => LamAt _ F f7 _ _ _ _ ∧ ∃ v1 v2 d1 d2, [v, .str y] = [v1, v2] ∧ Dp K F v1 d1 ∧ Dp K F v2 d2 ∧ (isSetD d1 = false ∨ isSetD d2 = false) ∧ ∀ F', Same F F' → E (.ref t.c_NoSet) none F', ?_, fun Q E hE => ⟨lam_x l7 (.inr ⟨_, hK7⟩) sF0, _, _, d, .str y, rfl, (dp_same sF _ _ hd), (.str y), .inl hbad, hE⟩⟩
      refine lam_callable (k := 19) (NL := ["_law_bad", "_law_good"]) (vL := [v, .str y]) ⟨rfl, rfl, rfl, by decide⟩ (fun _ _ _ _ => rfl) rfl (fun i x u g1 g2 => ?_) hc (fun H Q E h => h.1) (fun cd cells A outer s H Q E hr h =>
        ⟨_, pe_callX (ok_lacked T) (hr.mono (by decide)) (by rfl) T.m_lacked T.F_lacked.kp T.b_lacked .nil xok_fnL (pa_cons (pv 0) (pa_cons (pv 1) pa_nil)), ?_⟩)
      · match i, g1, g2 with
        | 0, g1, g2 => cases g1; cases g2; exact ⟨rfl, rfl, 0, rfl, h1⟩
        | 1, g1, g2 => cases g1; cases g2; exact ⟨rfl, rfl, 1, rfl, h2⟩
        | _ + 2, g1, _ => cases g1
      · obtain ⟨_, v1, v2, d1, d2, e, p1, p2, hb, hE⟩ := h
        cases e
        refine ⟨_, rfl, _, rfl, _, _, d1, d2, rfl, p1, p2, fun x1 y1 e1 e2 x2 y2 => ?_, fun _ => hE⟩
        rw [e1, e2] at hb
        rcases hb with hb | hb
        · rw [show isSetD (.str x1) = isSet x1 from rfl, x2] at hb; cases hb
        · rw [show isSetD (.str y1) = isSet y1 from rfl, y2] at hb; cases hb
    refine ⟨L, _, _, rfl, rfl, hK7, by show 6 + 1 ≤ sizeLine; decide, ?_⟩
    have hL7 : (upd F7 L (.lst (([f1, f2, f3, f4, f5, f6] : List Addr).map V.ref ++ [.ref f7]))) L = some (.lst (([f1, f2, f3, f4, f5, f6, f7] : List Addr).map V.ref)) := upd_same
    have t7 : Same H (upd F7 L (.lst (([f1, f2, f3, f4, f5, f6] : List Addr).map V.ref ++ [.ref f7]))) := fun c o hc => by
      rw [upd_ne (ne_of_none hc nL)]
      exact u7 c o (t6 c o hc)
    have B7 : ∀ f ∈ ([f1, f2, f3, f4, f5, f6, f7] : List Addr), Bad P w K mg t _ v (.str y) L (upd F7 L (.lst (([f1, f2, f3, f4, f5, f6] : List Addr).map V.ref ++ [.ref f7]))) f := bad_put (fun f hf => (B6 f hf).same (toX u7)) b7
    generalize upd F7 L (.lst (([f1, f2, f3, f4, f5, f6] : List Addr).map V.ref ++ [.ref f7])) = H7 at t7 hL7 B7
    clear b7 l7 n7 hK7 u7 B6 hL6
    refine ⟨_, rfl, .inl ⟨rfl, _, SqL.of hL7⟩, ⟨_, t7 _ _ hT⟩, fun f8 F8 u8 n8 l8 => ?_⟩
    have u8 : Same H7 F8 := u8
    have hK8 : F8 L = some (.lst (([f1, f2, f3, f4, f5, f6, f7] : List Addr).map V.ref)) := u8 _ _ hL7
    have b8 : Bad P w K mg t _ v (.str y) L F8 f8 := fun base' σ h1 h2 hc F sF0 => by
      have sF : Same H F := fun c o e => sF0 c o (ne_of_none e nL) ((t7.trans u8) c o e)
      refine ⟨fun F Q E => LamAt _ F f8 _ _ _ _ ∧ ∃ v1 v2 d1 d2, [v, .str y] = [v1, v2] ∧ Dp K F v1 d1 ∧ Dp K F v2 d2 ∧ (isSetD d1 = false ∨ isSetD d2 = false) ∧ ∀ F', Same F F' → E (.ref t.c_NoSet) none F', ?_, fun Q E hE => ⟨lam_x l8 (.inr ⟨_, hK8⟩) sF0, _, _, d, .str y, rfl, (dp_same sF _ _ hd), (.str y), .inl hbad, hE⟩⟩
      refine lam_callable (k := 19) (NL := ["_law_bad", "_law_good"]) (vL := [v, .str y]) ⟨rfl, rfl, rfl, by decide⟩ (fun _ _ _ _ => rfl) rfl (fun i x u g1 g2 => ?_) hc (fun H Q E h => h.1) (fun cd cells A outer s H Q E hr h =>
        ⟨_, pe_callX (ok_lies_in T) (hr.mono (by decide)) (by rfl) T.m_lies_in T.F_lies_in.kp T.b_lies_in .nil xok_fnL (pa_cons (pv 0) (pa_cons (pv 1) pa_nil)), ?_⟩)
      · match i, g1, g2 with
        | 0, g1, g2 => cases g1; cases g2; exact ⟨rfl, rfl, 0, rfl, h1⟩
        | 1, g1, g2 => cases g1; cases g2; exact ⟨rfl, rfl, 1, rfl, h2⟩
        | _ + 2, g1, _ => cases g1
      · obtain ⟨_, v1, v2, d1, d2, e, p1, p2, hb, hE⟩ := h
        cases e
        refine ⟨_, rfl, _, rfl, _, _, d1, d2, rfl, p1, p2, fun x1 y1 e1 e2 x2 y2 => ?_, fun _ => hE⟩
        rw [e1, e2] at hb
        rcases hb with hb | hb
        · rw [show isSetD (.str x1) = isSet x1 from rfl, x2] at hb; cases hb
        · rw [show isSetD (.str y1) = isSet y1 from rfl, y2] at hb; cases hb
    refine ⟨L, _, _, rfl, rfl, hK8, by show 7 + 1 ≤ sizeLine; decide, ?_⟩
    have hL8 : (upd F8 L (.lst (([f1, f2, f3, f4, f5, f6, f7] : List Addr).map V.ref ++ [.ref f8]))) L = some (.lst (([f1, f2, f3, f4, f5, f6, f7, f8] : List Addr).map V.ref)) := upd_same
    have t8 : Same H (upd F8 L (.lst (([f1, f2, f3, f4, f5, f6, f7] : List Addr).map V.ref ++ [.ref f8]))) := fun c o hc => by
      rw [upd_ne (ne_of_none hc nL)]
      exact u8 c o (t7 c o hc)
    have B8 : ∀ f ∈ ([f1, f2, f3, f4, f5, f6, f7, f8] : List Addr), Bad P w K mg t _ v (.str y) L (upd F8 L (.lst (([f1, f2, f3, f4, f5, f6, f7] : List Addr).map V.ref ++ [.ref f8]))) f := bad_put (fun f hf => (B7 f hf).same (toX u8)) b8
    generalize upd F8 L (.lst (([f1, f2, f3, f4, f5, f6, f7] : List Addr).map V.ref ++ [.ref f8])) = H8 at t8 hL8 B8
    clear b8 l8 n8 hK8 u8 B7 hL7
    refine ⟨_, rfl, .inl ⟨rfl, _, SqL.of hL8⟩, ⟨_, t8 _ _ hT⟩, fun f9 F9 u9 n9 l9 => ?_⟩
    have u9 : Same H8 F9 := u9
    have hK9 : F9 L = some (.lst (([f1, f2, f3, f4, f5, f6, f7, f8] : List Addr).map V.ref)) := u9 _ _ hL8
    have b9 : Bad P w K mg t _ v (.str y) L F9 f9 := fun base' σ h1 h2 hc F sF0 => by
      have sF : Same H F := fun c o e => sF0 c o (ne_of_none e nL) ((t8.trans u9) c o e)
      refine ⟨fun F Q E => LamAt _ F f9 _ _ _ _ ∧ ∃ v1 v2 d1 d2, [.str y, v] = [v1, v2] ∧ Dp K F v1 d1 ∧ Dp K F v2 d2 ∧ (isSetD d1 = false ∨ isSetD d2 = false) ∧ ∀ F', Same F F' → E (.ref t.c_NoSet) none F', ?_, fun Q E hE => ⟨lam_x l9 (.inr ⟨_, hK9⟩) sF0, _, _, .str y, d, rfl, (.str y), (dp_same sF _ _ hd), .inr hbad, hE⟩⟩
      refine lam_callable (k := 19) (NL := ["_law_bad", "_law_good"]) (vL := [v, .str y]) ⟨rfl, rfl, rfl, by decide⟩ (fun _ _ _ _ => rfl) rfl (fun i x u g1 g2 => ?_) hc (fun H Q E h => h.1) (fun cd cells A outer s H Q E hr h =>
        ⟨_, pe_callX (ok_lies_in T) (hr.mono (by decide)) (by rfl) T.m_lies_in T.F_lies_in.kp T.b_lies_in .nil xok_fnL (pa_cons (pv 1) (pa_cons (pv 0) pa_nil)), ?_⟩)
      · match i, g1, g2 with
        | 0, g1, g2 => cases g1; cases g2; exact ⟨rfl, rfl, 0, rfl, h1⟩
        | 1, g1, g2 => cases g1; cases g2; exact ⟨rfl, rfl, 1, rfl, h2⟩
        | _ + 2, g1, _ => cases g1
      · obtain ⟨_, v1, v2, d1, d2, e, p1, p2, hb, hE⟩ := h
        cases e
        refine ⟨_, rfl, _, rfl, _, _, d1, d2, rfl, p1, p2, fun x1 y1 e1 e2 x2 y2 => ?_, fun _ => hE⟩
        rw [e1, e2] at hb
        rcases hb with hb | hb
        · rw [show isSetD (.str x1) = isSet x1 from rfl, x2] at hb; cases hb
        · rw [show isSetD (.str y1) = isSet y1 from rfl, y2] at hb; cases hb
    refine ⟨L, _, _, rfl, rfl, hK9, by show 8 + 1 ≤ sizeLine; decide, ?_⟩
    have hL9 : (upd F9 L (.lst (([f1, f2, f3, f4, f5, f6, f7, f8] : List Addr).map V.ref ++ [.ref f9]))) L = some (.lst (([f1, f2, f3, f4, f5, f6, f7, f8, f9] : List Addr).map V.ref)) := upd_same
    have t9 : Same H (upd F9 L (.lst (([f1, f2, f3, f4, f5, f6, f7, f8] : List Addr).map V.ref ++ [.ref f9]))) := fun c o hc => by
      rw [upd_ne (ne_of_none hc nL)]
      exact u9 c o (t8 c o hc)
    have B9 : ∀ f ∈ ([f1, f2, f3, f4, f5, f6, f7, f8, f9] : List Addr), Bad P w K mg t _ v (.str y) L (upd F9 L (.lst (([f1, f2, f3, f4, f5, f6, f7, f8] : List Addr).map V.ref ++ [.ref f9]))) f := bad_put (fun f hf => (B8 f hf).same (toX u9)) b9
    generalize upd F9 L (.lst (([f1, f2, f3, f4, f5, f6, f7, f8] : List Addr).map V.ref ++ [.ref f9])) = H9 at t9 hL9 B9
    clear b9 l9 n9 hK9 u9 B8 hL8
    refine ⟨_, rfl, .inl ⟨rfl, _, SqL.of hL9⟩, ⟨_, t9 _ _ hT⟩, fun f10 F10 u10 n10 l10 => ?_⟩
    have u10 : Same H9 F10 := u10
    have hK10 : F10 L = some (.lst (([f1, f2, f3, f4, f5, f6, f7, f8, f9] : List Addr).map V.ref)) := u10 _ _ hL9
    have b10 : Bad P w K mg t _ v (.str y) L F10 f10 := fun base' σ h1 h2 hc F sF0 => by
      have sF : Same H F := fun c o e => sF0 c o (ne_of_none e nL) ((t9.trans u10) c o e)
      refine ⟨fun F Q E => LamAt _ F f10 _ _ _ _ ∧ ∃ v1 v2 d1 d2, [v, v] = [v1, v2] ∧ Dp K F v1 d1 ∧ Dp K F v2 d2 ∧ (isSetD d1 = false ∨ isSetD d2 = false) ∧ ∀ F', Same F F' → E (.ref t.c_NoSet) none F', ?_, fun Q E hE => ⟨lam_x l10 (.inr ⟨_, hK10⟩) sF0, _, _, d, d, rfl, (dp_same sF _ _ hd), (dp_same sF _ _ hd), .inl hbad, hE⟩⟩
      refine lam_callable (k := 19) (NL := ["_law_bad"]) (vL := [v]) ⟨rfl, rfl, rfl, by decide⟩ (fun _ _ _ _ => rfl) rfl (fun i x u g1 g2 => ?_) hc (fun H Q E h => h.1) (fun cd cells A outer s H Q E hr h =>
        ⟨_, pe_callX (ok_lies_in T) (hr.mono (by decide)) (by rfl) T.m_lies_in T.F_lies_in.kp T.b_lies_in .nil xok_fnL (pa_cons (pv 0) (pa_cons (pv 0) pa_nil)), ?_⟩)
      · match i, g1, g2 with
        | 0, g1, g2 => cases g1; cases g2; exact ⟨rfl, rfl, 0, rfl, h1⟩
        | _ + 1, g1, _ => cases g1
      · obtain ⟨_, v1, v2, d1, d2, e, p1, p2, hb, hE⟩ := h
        cases e
        refine ⟨_, rfl, _, rfl, _, _, d1, d2, rfl, p1, p2, fun x1 y1 e1 e2 x2 y2 => ?_, fun _ => hE⟩
        rw [e1, e2] at hb
        rcases hb with hb | hb
        · rw [show isSetD (.str x1) = isSet x1 from rfl, x2] at hb; cases hb
        · rw [show isSetD (.str y1) = isSet y1 from rfl, y2] at hb; cases hb
    refine ⟨L, _, _, rfl, rfl, hK10, by show 9 + 1 ≤ sizeLine; decide, ?_⟩
    have hL10 : (upd F10 L (.lst (([f1, f2, f3, f4, f5, f6, f7, f8, f9] : List Addr).map V.ref ++ [.ref f10]))) L = some (.lst (([f1, f2, f3, f4, f5, f6, f7, f8, f9, f10] : List Addr).map V.ref)) := upd_same
    have t10 : Same H (upd F10 L (.lst (([f1, f2, f3, f4, f5, f6, f7, f8, f9] : List Addr).map V.ref ++ [.ref f10]))) := fun c o hc => by
      rw [upd_ne (ne_of_none hc nL)]
      exact u10 c o (t9 c o hc)
    have B10 : ∀ f ∈ ([f1, f2, f3, f4, f5, f6, f7, f8, f9, f10] : List Addr), Bad P w K mg t _ v (.str y) L (upd F10 L (.lst (([f1, f2, f3, f4, f5, f6, f7, f8, f9] : List Addr).map V.ref ++ [.ref f10]))) f := bad_put (fun f hf => (B9 f hf).same (toX u10)) b10
    generalize upd F10 L (.lst (([f1, f2, f3, f4, f5, f6, f7, f8, f9] : List Addr).map V.ref ++ [.ref f10])) = H10 at t10 hL10 B10
    clear b10 l10 n10 hK10 u10 B9 hL9
    refine ⟨_, rfl, .inl ⟨rfl, _, SqL.of hL10⟩, ⟨_, t10 _ _ hT⟩, fun f11 F11 u11 n11 l11 => ?_⟩
    have u11 : Same H10 F11 := u11
    have hK11 : F11 L = some (.lst (([f1, f2, f3, f4, f5, f6, f7, f8, f9, f10] : List Addr).map V.ref)) := u11 _ _ hL10
    have b11 : Bad P w K mg t _ v (.str y) L F11 f11 := fun base' σ h1 h2 hc F sF0 => by
      have sF : Same H F := fun c o e => sF0 c o (ne_of_none e nL) ((t10.trans u11) c o e)
      refine ⟨fun F Q E => LamAt _ F f11 _ _ _ _ ∧ ∃ v1 v2 d1 d2, [v, v] = [v1, v2] ∧ Dp K F v1 d1 ∧ Dp K F v2 d2 ∧ (isSetD d1 = false ∨ isSetD d2 = false) ∧ ∀ F', Same F F' → E (.ref t.c_NoSet) none F', ?_, fun Q E hE => ⟨lam_x l11 (.inr ⟨_, hK11⟩) sF0, _, _, d, d, rfl, (dp_same sF _ _ hd), (dp_same sF _ _ hd), .inl hbad, hE⟩⟩
      refine lam_callable (k := 19) (NL := ["_law_bad"]) (vL := [v]) ⟨rfl, rfl, rfl, by decide⟩ (fun _ _ _ _ => rfl) rfl (fun i x u g1 g2 => ?_) hc (fun H Q E h => h.1) (fun cd cells A outer s H Q E hr h =>
        ⟨_, pe_callX (ok_both T) (hr.mono (by decide)) (by rfl) T.m_both T.F_both.kp T.b_both .nil xok_fnL (pa_cons (pv 0) (pa_cons (pv 0) pa_nil)), ?_⟩)
      · match i, g1, g2 with
        | 0, g1, g2 => cases g1; cases g2; exact ⟨rfl, rfl, 0, rfl, h1⟩
        | _ + 1, g1, _ => cases g1
      · obtain ⟨_, v1, v2, d1, d2, e, p1, p2, hb, hE⟩ := h
        cases e
        refine ⟨_, rfl, _, rfl, _, _, d1, d2, rfl, p1, p2, fun x1 y1 e1 e2 x2 y2 => ?_, fun _ => hE⟩
        rw [e1, e2] at hb
        rcases hb with hb | hb
        · rw [show isSetD (.str x1) = isSet x1 from rfl, x2] at hb; cases hb
        · rw [show isSetD (.str y1) = isSet y1 from rfl, y2] at hb; cases hb
    refine ⟨L, _, _, rfl, rfl, hK11, by show 10 + 1 ≤ sizeLine; decide, ?_⟩
    have hL11 : (upd F11 L (.lst (([f1, f2, f3, f4, f5, f6, f7, f8, f9, f10] : List Addr).map V.ref ++ [.ref f11]))) L = some (.lst (([f1, f2, f3, f4, f5, f6, f7, f8, f9, f10, f11] : List Addr).map V.ref)) := upd_same
    have t11 : Same H (upd F11 L (.lst (([f1, f2, f3, f4, f5, f6, f7, f8, f9, f10] : List Addr).map V.ref ++ [.ref f11]))) := fun c o hc => by
      rw [upd_ne (ne_of_none hc nL)]
      exact u11 c o (t10 c o hc)
    have B11 : ∀ f ∈ ([f1, f2, f3, f4, f5, f6, f7, f8, f9, f10, f11] : List Addr), Bad P w K mg t _ v (.str y) L (upd F11 L (.lst (([f1, f2, f3, f4, f5, f6, f7, f8, f9, f10] : List Addr).map V.ref ++ [.ref f11]))) f := bad_put (fun f hf => (B10 f hf).same (toX u11)) b11
    generalize upd F11 L (.lst (([f1, f2, f3, f4, f5, f6, f7, f8, f9, f10] : List Addr).map V.ref ++ [.ref f11])) = H11 at t11 hL11 B11
    clear b11 l11 n11 hK11 u11 B10 hL10
    refine ⟨_, rfl, .inl ⟨rfl, _, SqL.of hL11⟩, ⟨_, t11 _ _ hT⟩, fun f12 F12 u12 n12 l12 => ?_⟩
    have u12 : Same H11 F12 := u12
    have hK12 : F12 L = some (.lst (([f1, f2, f3, f4, f5, f6, f7, f8, f9, f10, f11] : List Addr).map V.ref)) := u12 _ _ hL11
    have b12 : Bad P w K mg t _ v (.str y) L F12 f12 := fun base' σ h1 h2 hc F sF0 => by
      have sF : Same H F := fun c o e => sF0 c o (ne_of_none e nL) ((t11.trans u12) c o e)
      refine ⟨fun F Q E => LamAt _ F f12 _ _ _ _ ∧ ∃ v1 v2 d1 d2, [v, v] = [v1, v2] ∧ Dp K F v1 d1 ∧ Dp K F v2 d2 ∧ (isSetD d1 = false ∨ isSetD d2 = false) ∧ ∀ F', Same F F' → E (.ref t.c_NoSet) none F', ?_, fun Q E hE => ⟨lam_x l12 (.inr ⟨_, hK12⟩) sF0, _, _, d, d, rfl, (dp_same sF _ _ hd), (dp_same sF _ _ hd), .inl hbad, hE⟩⟩
      refine lam_callable (k := 19) (NL := ["_law_bad"]) (vL := [v]) ⟨rfl, rfl, rfl, by decide⟩ (fun _ _ _ _ => rfl) rfl (fun i x u g1 g2 => ?_) hc (fun H Q E h => h.1) (fun cd cells A outer s H Q E hr h =>
        ⟨_, pe_callX (ok_either T) (hr.mono (by decide)) (by rfl) T.m_either T.F_either.kp T.b_either .nil xok_fnL (pa_cons (pv 0) (pa_cons (pv 0) pa_nil)), ?_⟩)
      · match i, g1, g2 with
        | 0, g1, g2 => cases g1; cases g2; exact ⟨rfl, rfl, 0, rfl, h1⟩
        | _ + 1, g1, _ => cases g1
      · obtain ⟨_, v1, v2, d1, d2, e, p1, p2, hb, hE⟩ := h
        cases e
        refine ⟨_, rfl, _, rfl, _, _, d1, d2, rfl, p1, p2, fun x1 y1 e1 e2 x2 y2 => ?_, fun _ => hE⟩
        rw [e1, e2] at hb
        rcases hb with hb | hb
        · rw [show isSetD (.str x1) = isSet x1 from rfl, x2] at hb; cases hb
        · rw [show isSetD (.str y1) = isSet y1 from rfl, y2] at hb; cases hb
    refine ⟨L, _, _, rfl, rfl, hK12, by show 11 + 1 ≤ sizeLine; decide, ?_⟩
    have hL12 : (upd F12 L (.lst (([f1, f2, f3, f4, f5, f6, f7, f8, f9, f10, f11] : List Addr).map V.ref ++ [.ref f12]))) L = some (.lst (([f1, f2, f3, f4, f5, f6, f7, f8, f9, f10, f11, f12] : List Addr).map V.ref)) := upd_same
    have t12 : Same H (upd F12 L (.lst (([f1, f2, f3, f4, f5, f6, f7, f8, f9, f10, f11] : List Addr).map V.ref ++ [.ref f12]))) := fun c o hc => by
      rw [upd_ne (ne_of_none hc nL)]
      exact u12 c o (t11 c o hc)
    have B12 : ∀ f ∈ ([f1, f2, f3, f4, f5, f6, f7, f8, f9, f10, f11, f12] : List Addr), Bad P w K mg t _ v (.str y) L (upd F12 L (.lst (([f1, f2, f3, f4, f5, f6, f7, f8, f9, f10, f11] : List Addr).map V.ref ++ [.ref f12]))) f := bad_put (fun f hf => (B11 f hf).same (toX u12)) b12
    generalize upd F12 L (.lst (([f1, f2, f3, f4, f5, f6, f7, f8, f9, f10, f11] : List Addr).map V.ref ++ [.ref f12])) = H12 at t12 hL12 B12
    clear b12 l12 n12 hK12 u12 B11 hL11
    have hd12 := dp_same t12 _ _ hd
    obtain ⟨a1, a2, a3, a4⟩ := hsh
    refine ⟨_, rfl, v, d, rfl, hd12, a1, a2, a3, a4, ?_⟩
    generalize hfs : ([f1, f2, f3, f4, f5, f6, f7, f8, f9, f10, f11, f12] : List Addr) = fs at hL12 B12
    have hln : fs.length = 12 := by rw [← hfs]; rfl
    clear hfs
    have Rset : Refusal K t t.c_NoSet := ⟨T.g_NoSet, T.r_NoSet, T.x_NoSet⟩
    refine ⟨_, rfl, L, rfl, ⟨_, SqL.of hL12⟩, fun D hD => ?_⟩
    refine lc_list (K := K) (a := L) (xs := fs.map V.ref) (fun j G => Same H12 G ∧ G D = some (.lst ((List.replicate j ("set" : Str)).map V.str))) ⟨same_new hD, upd_same⟩ (fun j G _ pv => SqL.of (pv.1 _ _ hL12)) (fun j x G ev pv => ?_) (fun G pv => ?_)
    · obtain ⟨sG, hG⟩ := pv
      rw [List.getElem?_map] at ev
      obtain ⟨f, ef, rfl⟩ := Option.map_eq_some_iff.mp ev
      have hj : j < fs.length := (List.getElem?_eq_some_iff.mp ef).1
      refine ⟨rfl, yes ?_⟩
      refine iteT ?_
      refine ⟨_, rfl, fun base' hM hC => ?_⟩
      obtain ⟨spL, hcl, hs⟩ := B12 f (List.mem_of_getElem? ef) base' _ rfl rfl hC G (toX sG)
      refine ⟨f, spL, rfl, hcl, fun Q' E' _ hE => hs Q' E' fun F' s' => hE _ _ _ ⟨t.c_NoSet, 0, "set", rfl, rfl, rfl, rfl, Rset, fun F2 s2 => ?_⟩⟩
      have s3 := s'.trans s2
      refine ⟨_, s3 _ _ hG, by rw [List.length_map, List.length_replicate, sizeLine_eq]; omega, fun c o hc => ?_, ?_⟩
      · rw [upd_ne (ne_of_none hc hD)]
        exact s3 c o (sG c o hc)
      · rw [upd_same, List.replicate_succ', List.map_append]
        rfl
    obtain ⟨sG, hG⟩ := pv
    rw [List.length_map, hln] at hG
    refine ⟨by show 1 ≤ sizeLine; decide, fun p1 hp1 => ?_⟩
    have w1 := same_new (o := .lst [.str "set"]) hp1
    refine ⟨p1, 12, _, rfl, rfl, upd_same, by decide, by decide, by show 1 * 12 ≤ sizeLine; decide, fun p2 hp2 => ?_⟩
    have w2 := same_new (o := .lst (List.replicate 12 [V.str "set"]).flatten) hp2
    have tx : ∀ (zs : List Str) (H : Hp), DpAll K H (zs.map V.str) (zs.map PyData.str) := fun zs H => by
      induction zs with
      | nil => exact .nil
      | cons z zs ih => exact .cons (.str z) ih
    have shp : SeqAt.shaped (.list ((List.replicate 12 ("set" : Str)).map PyData.str)) = true := by decide +kernel
    refine ⟨_, _, .lst (SqL.of (w2 _ _ (w1 _ _ hG))) (tx _ _), .lst (SqL.of (upd_same.trans (by rfl))) (tx (List.replicate 12 "set") _), shp, shp, ?_⟩
    rw [eqv_texts, decide_eq_true rfl]
    refine ⟨_, rfl, ?_⟩
    refine iteT ?_
    have wG := sG.trans (w1.trans w2)
    refine ⟨_, rfl, v, d, rfl, dp_same wG _ _ hd12, a1, a2, a3, a4, _, rfl, rfl, ?_⟩
    rw [decide_eq_true rfl]
    exact q _ (t12.trans wG)
end M

set_option Elab.async false
set_option linter.all false
set_option maxRecDepth 100000
set_option maxHeartbeats 4000000
namespace M
open PySem PySem.Spec PyProof.Rows L2
variable {P : Program} {w : World} {K : PySem.W.Frag} {mg : Str → Option Value} {base : Heap} {t : Adr}
def spLaw (K : PySem.W.Frag) (Pt : Addr) : Sp := fun vs H Q _ => ∃ (a : Addr) (ns : List Int), vs = [.ref a] ∧ SqL K H a (ns.map V.int) ∧ ns.length ≤ 63 ∧ H Pt = some (.tbl #[.str refQ 0]) ∧ ∀ H', Q (.bl true) H'
theorem ok_law (T : Txt K mg t) : FnOk P w K mg base (CXr P w) 40 t.f_law t.d_law p_law (spLaw K t.kp_refused_right) := by
  refine T.F_law.okN sc_law (fun vs H Q E h => ?_) (fun cdv A outer s H vs Q E hr h => ?_)
  · obtain ⟨a, ns, rfl, _⟩ := h
    rfl
  · obtain ⟨a, ns, rfl, hS, h63, hT, q⟩ := h
    refine ⟨_, pss_cons (ps_for PassesOwn.never rfl (pi_range1 rfl T.n_range (pa_cons (pe_callB (call_max2 rfl) (by rfl) T.n_max (by decide +kernel) (pa_cons pe_int (pa_cons (pe_callB (call_min2 rfl) (by rfl) T.n_min (by decide +kernel) (pa_cons (pe_callB call_len_seq (by rfl) T.n_len PySem.boot_len (pa_cons (pv 0) pa_nil)) (pa_cons pe_int pa_nil))) pa_nil))) pa_nil)) (pg_name (i := 1) sc_law.nd rfl (Or.inl rfl))
        (pss_cons (ps_set (i := 2) sc_law.nd rfl (Or.inl rfl) (pe_callX (ok_state T) (hr.mono (by decide)) (by rfl) T.m_state T.F_state.kp T.b_state .nil xok0 (pa_cons (pv 0) (pa_cons (pv 1) pa_nil))))
        (pss_cons (ps_set (i := 3) sc_law.nd rfl (Or.inl rfl) (pe_callX (ok_pick T) (hr.mono (by decide)) (by rfl) T.m_pick T.F_pick.kp T.b_pick .nil xok0 (pa_cons (pv 2) (pa_cons (pe_callX (ok_head T) (hr.mono (by decide)) (by rfl) T.m_head T.F_head.kp T.b_head .nil xok0 (pa_cons (pv 2) pa_nil)) pa_nil))))
        (pss_cons (ps_set (i := 4) sc_law.nd rfl (Or.inl rfl) (pe_callX (ok_pick T) (hr.mono (by decide)) (by rfl) T.m_pick T.F_pick.kp T.b_pick .nil xok0 (pa_cons (pv 2) (pa_cons (pe_callX (ok_head T) (hr.mono (by decide)) (by rfl) T.m_head T.F_head.kp T.b_head .nil xok0 (pa_cons (pv 2) pa_nil)) pa_nil))))
        (pss_cons (ps_if (PW.pt (pw_or (pt_not (pt_cmpR op_is_bl (pe_callX (ok_is_set T) (hr.mono (by decide)) (by rfl) T.m_is_set T.F_is_set.kp T.b_is_set .nil xok0 (pa_cons (pv 3) pa_nil)) pe_bl (nomark _))) (pw_or (pt_not (pt_val (pe_callX (ok_pair_right T) (hr.mono (by decide)) (by rfl) T.m_pair_right T.F_pair_right.kp T.b_pair_right .nil xok0 (pa_cons (pv 3) (pa_cons (pv 4) pa_nil))))) (pw_or1 (pt_not (pt_val (pe_callX (ok_pair_right T) (hr.mono (by decide)) (by rfl) T.m_pair_right T.F_pair_right.kp T.b_pair_right .nil xok0 (pa_cons (pv 4) (pa_cons (pv 3) pa_nil))))))))) (pss_one (ps_ret pe_bl)) pss_nil)
        (pss_one (ps_for PassesOwn.never rfl (pi_range1 rfl T.n_range (pa_cons pe_int pa_nil)) (pg_name (i := 5) sc_law.nd rfl (Or.inl rfl))
          (pss_cons (ps_set (i := 6) sc_law.nd rfl (Or.inl rfl) (pe_callX (ok_text_bent T) (hr.mono (by decide)) (by rfl) T.m_text_bent T.F_text_bent.kp T.b_text_bent .nil xok0 (pa_cons (pv 2) (pa_cons (pv 3) pa_nil))))
          (pss_cons (ps_set (i := 7) sc_law.nd rfl (Or.inl rfl) (pe_callX (ok_l_is_set T) (hr.mono (by decide)) (by rfl) T.m_l_is_set T.F_l_is_set.kp T.b_l_is_set .nil xok0 (pa_cons (pv 6) (pa_cons pe_str pa_nil))))
          (pss_cons (ps_if (pt_not (pt_val (pe_callX (ok_same T) (hr.mono (by decide)) (by rfl) T.m_same T.F_same.kp T.b_same .nil xok0 (pa_cons (pe_callX (ok_is_set T) (hr.mono (by decide)) (by rfl) T.m_is_set T.F_is_set.kp T.b_is_set .nil xok0 (pa_cons (pv 6) pa_nil)) (pa_cons (pv 7) pa_nil))))) (pss_one (ps_ret pe_bl)) pss_nil)
          (pss_one (ps_if (PW.pt (pw_or (PW.pt (pw_and (pt_val (pv 7)) (pw_and1 (pt_not (pt_val (pe_callX (ok_pair_right T) (hr.mono (by decide)) (by rfl) T.m_pair_right T.F_pair_right.kp T.b_pair_right .nil xok0 (pa_cons (pv 6) (pa_cons (pv 4) pa_nil)))))))) (pw_or1 (PW.pt (pw_and (pt_not (pt_val (pv 7))) (pw_and1 (pt_not (pt_val (pe_callX (ok_refused_right T) (hr.mono (by decide)) (by rfl) T.m_refused_right T.F_refused_right.kp T.b_refused_right .nil xok0 (pa_cons (pv 6) (pa_cons (pv 4) pa_nil))))))))))) (pss_one (ps_ret pe_bl)) pss_nil))))))))))))
      (pss_one (ps_ret (pe_and (pe_cmpR op_is_bl (pe_callX (ok_is_set T) (hr.mono (by decide)) (by rfl) T.m_is_set T.F_is_set.kp T.b_is_set .nil xok0 (pa_cons pe_str pa_nil)) pe_bl (nomark _)) (pe_and (pe_cmpR op_is_bl (pe_callX (ok_is_set T) (hr.mono (by decide)) (by rfl) T.m_is_set T.F_is_set.kp T.b_is_set .nil xok0 (pa_cons pe_str pa_nil)) pe_bl (nomark _)) (pe_one (pe_callX (ok_pair_right T) (hr.mono (by decide)) (by rfl) T.m_pair_right T.F_pair_right.kp T.b_pair_right .nil xok0 (pa_cons pe_str (pa_cons pe_str pa_nil)))))))), ?_⟩
    refine ⟨_, rfl, a, _, rfl, .inl hS, _, _, rfl, _, _, rfl, _, rfl, ?_, ?_, ?_⟩
    · split <;> split <;> omega
    · have : ((ns.map V.int).length : Int) ≤ 63 := by rw [List.length_map]; omega
      split <;> split <;> omega
    refine for_range (lo := 0) (fun i σ H' => Same H H' ∧ ∃ o1 o2 o3 o4 o5 o6 o7, σ = [some (.ref a), o1, o2, o3, o4, o5, o6, o7]) ⟨fun _ _ h => h, _, _, _, _, _, _, _, rfl⟩ (fun i σ H' hi pv => ?_) (fun σ H' pv => ?_)
    · obtain ⟨sm, o1, o2, o3, o4, o5, o6, o7, rfl⟩ := pv
      refine ⟨_, rfl, _, rfl, a, ns, _, rfl, sm.seq hS, by omega, fun p H1 hp s1 st1 => ?_⟩
      have hpH : H p = none := none_backZ sm hp
      have sm1 : Same H H1 := sm.trans s1
      refine ⟨_, rfl, _, rfl, p, rfl, st1, fun x H2 hx hne m2 => ?_⟩
      refine ⟨p, x, rfl, m2.st, hx, hne, fun c1 H3 t1 n1 => ?_⟩
      have y1 := set_of_sub (x := x) (show (⟨c1.toArray⟩ : Str).cps.toList.Sublist x.cps.toList from t1) hx
      generalize (⟨c1.toArray⟩ : Str) = u1 at y1 ⊢
      refine ⟨_, rfl, _, rfl, p, rfl, n1.st, fun x' H4 hx' hne' m4 => ?_⟩
      refine ⟨p, x', rfl, m4.st, hx', hne', fun c2 H5 t2 n2 => ?_⟩
      have y2 := set_of_sub (x := x') (show (⟨c2.toArray⟩ : Str).cps.toList.Sublist x'.cps.toList from t2) hx'
      generalize (⟨c2.toArray⟩ : Str) = u2 at y2 ⊢
      have m5 := m2.trans (n1.trans (m4.trans n2))
      have to5 : Same H H5 := fun c o hc => m5.sm c o (ne_of_none hc hpH) (sm1 c o hc)
      have st5 := m5.st
      clear m2 n1 m4 n2 m5 sm1 s1 sm hp st1 t1 t2
      refine ⟨_, rfl, .str u1, .str u1, rfl, .str u1, fun H6 s6 => ?_⟩
      rw [show isSetD (.str u1) = isSet u1 from rfl, y1]
      refine ⟨true, true, rfl, rfl, _, rfl, iteF ?_⟩
      refine ⟨_, rfl, _, rfl, u1, u2, rfl, y1, y2, fun H7 s7 => ⟨_, rfl, iteF ?_⟩⟩
      refine ⟨_, rfl, _, rfl, u2, u1, rfl, y2, y1, fun H8 s8 => ⟨_, rfl, iteF ?_⟩⟩
      have s58 := s6.trans (s7.trans s8)
      have st8 : StAt H8 p := (st5.same s58).st
      have to8 := to5.trans s58
      clear s6 s7 s8 s58 to5 st5
      refine ⟨4, rfl, by decide, by decide, ?_⟩
      refine for_range (lo := 0) (n := 4) (fun j σ G => Mv p H8 G ∧ ∃ o5 o6 o7, σ = [some (.ref a), some (.int (0 + (i : Int))), some (.ref p), some (.str u1), some (.str u2), o5, o6, o7]) ⟨Mv.refl st8, _, _, _, rfl⟩ (fun j σ G hj pv => ?_) (fun σ G pv => ?_)
      · obtain ⟨mG, o5, o6, o7, rfl⟩ := pv
        refine ⟨_, rfl, _, rfl, p, u1, rfl, mG.st, y1, fun v d G1 m1 hb => ?_⟩
        have mG1 := mG.trans m1
        refine ⟨_, rfl, v, d, "abcdefgh", rfl, hb.1, hb.2.2, by decide +kernel, fun G2 s2 => ?_⟩
        rw [inSet_all]
        have hd2 := dp_same s2 _ _ hb.1
        refine ⟨_, rfl, v, d, rfl, hd2, fun G3 s3 => ?_⟩
        refine ⟨_, rfl, _, _, _, _, rfl, .bl _, .bl _, shows_bl _, shows_bl _, _, rfl, ?_⟩
        rw [decide_eq_true rfl]
        refine iteF ?_
        have s23 := s2.trans s3
        have hb3 : BentT K G3 v d := ⟨dp_same s23 _ _ hb.1, hb.2⟩
        have m3 := mG1.same s23
        have hT3 : G3 t.kp_refused_right = some (.tbl #[.str refQ 0]) := m3.sm _ _ (ne_of_none hT hpH) (to8 _ _ hT)
        cases e : isSetD d with
        | true =>
          obtain ⟨z, rfl, hz⟩ := isSetD_str e
          have hv : v = .str z := by cases hb.1; rfl
          subst hv
          refine ⟨_, rfl, _, rfl, iteT ?_⟩
          refine ⟨_, rfl, _, rfl, z, u2, rfl, hz, y2, fun G4 s4 => ⟨_, rfl, iteF ?_⟩⟩
          refine ⟨_, rfl, _, rfl, iteF ?_⟩
          exact iteF ⟨m3.same s4, _, _, _, rfl⟩
        | false =>
          refine ⟨_, rfl, _, rfl, iteF ?_⟩
          refine iteF ?_
          refine ⟨_, rfl, _, rfl, iteT ?_⟩
          refine ⟨_, rfl, _, rfl, v, d, u2, rfl, hb3, e, y2, hT3, fun G4 s4 => ⟨_, rfl, iteF ?_⟩⟩
          exact ⟨m3.same s4, _, _, _, rfl⟩
      · obtain ⟨mG, o5, o6, o7, rfl⟩ := pv
        exact ⟨fun c o hc => mG.sm c o (ne_of_none hc hpH) (to8 c o hc), _, _, _, _, _, _, _, rfl⟩
    · obtain ⟨sm, o1, o2, o3, o4, o5, o6, o7, rfl⟩ := pv
      refine ⟨.str "", .str "", rfl, .str "", fun H1 s1 => ?_⟩
      rw [show isSetD (.str "") = true by decide +kernel]
      refine ⟨true, true, rfl, rfl, _, rfl, iteT ?_⟩
      refine ⟨.str "abcdefgh", .str "abcdefgh", rfl, .str "abcdefgh", fun H2 s2 => ?_⟩
      rw [show isSetD (.str "abcdefgh") = true by decide +kernel]
      refine ⟨true, true, rfl, rfl, _, rfl, iteT ?_⟩
      exact ⟨"", "abcdefgh", rfl, by decide +kernel, by decide +kernel, fun H3 s3 => q H3⟩
end M

namespace M
open PySem PySem.Spec PyProof.Rows L2
theorem law_bd (s : Shared) (v : Value) : BindsTo s adr.d_law ⟨[v], []⟩ [("_law_script", v)] := BindsTo.of_eq rfl
def tabs : Tabs := [(424, 422, "_law_refused_right.<locals>.<lambda>")]
theorem tabs_K (P : Params) : ∀ p ∈ tabs, PySem.W.codeHdIn (head.heap_39 P) p.1 p.2.1 = true ∧ (head.heap_39 P).lookup p.2.1 = none := fun p hp => by
  rcases List.mem_cons.mp hp with rfl | hp
  · exact ⟨by kernel_rfl, by kernel_rfl⟩
  exact absurd hp (by simp)
end M
open PySem PySem.W PyProof.Rows
theorem PySem.Challenge.cw_keytables_k01_sets_of_columns_holds : PySem.Challenge.rw_keytables_k01_sets_of_columns.Holds :=
  head (by
  refine L2.walk_ofT (l := PySem.Challenge.rw_keytables_k01_sets_of_columns) (n := 63) (k := 40) (x := "_law_script") (K := head.heap_39) (CX := fun w => L2.CXr (PySem.Challenge.rw_keytables_k01_sets_of_columns).prog w) (sp := fun w => M.spLaw (head.heap_39 w.params) M.adr.kp_refused_right) M.tabs rfl (by decide) rfl ⟨rfl, by decide, by decide, rfl⟩ (fun w h Y => ⟨PySem.W.km_in_of Y, fun p hp => PySem.W.km_tabs_of Y _ ((by decide : ∀ p ∈ M.tabs, p.2.1 ∈ _) p hp)⟩) M.tabs_K ?F (fun _ H a ns hl hS hT => ⟨a, ns, rfl, hS, hl, hT 422 _ rfl, fun _ => rfl⟩) (fun _ _ _ _ _ z => ?C)
  case F =>
    intro w mg fa h KX G hmg
    have T := M.txt_all KX G
    have e := hmg.symm.trans T.m_law
    cases e
    exact ⟨M.adr.d_law, M.law_bd, fun base _ _ => M.ok_law T⟩
  case C =>
    obtain ⟨_, _, _, _, _, _, hE, _⟩ := z
    exact hE)

